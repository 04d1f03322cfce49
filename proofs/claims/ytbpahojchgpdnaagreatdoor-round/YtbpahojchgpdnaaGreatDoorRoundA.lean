/-  -/
import Derived.Test.YtbpahojchgpdnaaGreatDoorSumsA
import Derived.Test.YtbpahojchgpdnaaGreatDoorNames
import Derived.Deep.DeepCutAuto
set_option maxRecDepth 20000
set_option maxHeartbeats 4000000
namespace Go.Proofs.YtbpahojchgpdnaaGreatDoor
open Go.RowKit Go.Shelf Go.Lib Go.Sort Go.Bel
theorem lenM_all {n s x m s' x' m' : Nat} (h : LenM n s x m) (h' : LenM n s' x' m') : s = s' ∧ x = x' ∧ m = m' := by
 have e := lenM_one h h'
 subst e
 refine ⟨rfl, ?_⟩
 rcases h with ⟨a1, a2, a3, a4⟩ | ⟨a1, a2, a3, a4, a5⟩ | ⟨a1, a2, a3, a4, a5, a6, a7⟩
 ·rcases h' with ⟨b1, b2, b3, b4⟩ | ⟨b1, b2, b3, b4, b5⟩ | ⟨b1, b2, b3, b4, b5, b6, b7⟩
  ·omega
  ·omega
  ·omega
 ·rcases h' with ⟨b1, b2, b3, b4⟩ | ⟨b1, b2, b3, b4, b5⟩ | ⟨b1, b2, b3, b4, b5, b6, b7⟩
  ·omega
  ·omega
  ·omega
 ·rcases h' with ⟨b1, b2, b3, b4⟩ | ⟨b1, b2, b3, b4, b5⟩ | ⟨b1, b2, b3, b4, b5, b6, b7⟩
  ·omega
  ·omega
  ·have e : m = m' := a3.trans b3.symm
   subst e
   exact ⟨by omega, rfl⟩
theorem distM_all {n s x m s' x' m' : Nat} (h : DistM n s x m) (h' : DistM n s' x' m') : s = s' ∧ x = x' ∧ m = m' := by
 have e := distM_one h h'
 subst e
 refine ⟨rfl, ?_⟩
 rcases h with ⟨a1, a2, a3, a4⟩ | ⟨a1, a2, a3, a4, a5, a6⟩
 ·rcases h' with ⟨b1, b2, b3, b4⟩ | ⟨b1, b2, b3, b4, b5, b6⟩
  ·omega
  ·omega
 ·rcases h' with ⟨b1, b2, b3, b4⟩ | ⟨b1, b2, b3, b4, b5, b6⟩
  ·omega
  ·have e : m = m' := a3.trans b3.symm
   subst e
   exact ⟨by omega, rfl⟩
theorem PcBits.one {L1 L2 : List Nat} {p : Pc} {b b' : List Bool} (h : PcBits L1 L2 p b) (h' : PcBits L1 L2 p b') : b = b' := by
 rcases h with ⟨a1, a2⟩ | ⟨a1, s, x, m, s2, x2, m2, a2, a3, a4⟩
 ·rcases h' with ⟨b1, b2⟩ | ⟨b1, _⟩
  ·rw [a2, b2]
  ·exact absurd a1 b1
 ·rcases h' with ⟨b1, b2⟩ | ⟨b1, t, y, k, t2, y2, k2, b2, b3, b4⟩
  ·exact absurd b1 a1
  ·obtain ⟨rfl, rfl, rfl⟩ := lenM_all a2 b2
   obtain ⟨rfl, rfl, rfl⟩ := distM_all a3 b3
   rw [a4, b4]
theorem PcsBits.one {L1 L2 : List Nat} : ∀ {ps : List Pc} {b b' : List Bool}, PcsBits L1 L2 ps b → PcsBits L1 L2 ps b' → b = b'
 | [], b, b', h, h' => by
  have e : b = [] := h
  have e' : b' = [] := h'
  rw [e, e']
 | _ :: _, _, _, ⟨b1, b2, hb, h1, h2⟩, ⟨c1, c2, hc, k1, k2⟩ => by rw [hb, hc, PcBits.one h1 k1, PcsBits.one h2 k2]
theorem StoR.one {n : Nat} {ys : List Nat} {bits bits' : List Bool} (h : StoR n ys bits) : StoR n ys bits' → bits = bits' := by
 induction h generalizing bits' with
 | last n ys h =>
  intro h'
  cases h' with
  | last => rfl
  | more _ _ b h' ht => omega
 | more n ys bits h ht ih =>
  intro h'
  cases h' with
  | last _ _ h' => omega
  | more _ _ b h' ht' => rw [ih ht']
end Go.Proofs.YtbpahojchgpdnaaGreatDoor
namespace Go.Proofs.YtbpahojchgpdnaaGreatDoor
open Go.RowKit Go.Bel Go.Maps
theorem around_more (k : Nat) (P ys : List Nat) : (aroundK k P ys).length = P.length + (if k = 1 then 6 else if k = 2 then 18 else 0) := by
 unfold aroundK
 by_cases h1 : k = 1
 ·rw [if_pos h1, if_pos h1]; simp [aroundZ, be4]
 ·rw [if_neg h1, if_neg h1]
  by_cases h2 : k = 2
  ·rw [if_pos h2, if_pos h2]; simp [aroundG, le4]
  ·rw [if_neg h2, if_neg h2]; rfl
theorem best_least {ys : List Nat} {xb yb zb : List Bool} (hz : BestPb ys zb) (hx : StoR 0 ys xb) (hy : FixPk ys yb) : (zb.length + 7) / 8 ≤ (xb.length + 7) / 8 ∧ (zb.length + 7) / 8 ≤ (yb.length + 7) / 8 := by
 obtain ⟨ps, sb, fb, pb, tb, h1, h2, h3, h4, h5, h6, h7, h8, h9, ha, hb, hc⟩ := hz
 obtain ⟨ps', pb', k1, _, k2, rfl⟩ := hy.2
 have e := hb.one k1
 subst e
 rw [← h2.one hx, ← h3.one k2, ← h5]
 exact ⟨h8, h9⟩
theorem pack_facts {w w' : World} {k v : Nat} {sb : ByteArray} {u : Value} {bits : List Bool} {P : List Nat} (hp : PackP w w' k (bytesOf sb) (AnyPb v (bytesOf sb)) u bits P) (hs : sb.size ≤ 1048576) : ReadsAs P (bytesOf sb) ∧ AllB P ∧ 0 < P.length ∧ P.length ≤ 8388000 ∧ P.length = (bits.length + 7) / 8 := by
 have hal := any_len hp.pb (by rw [bytesOf_length]; omega)
 have hl := hp.len
 refine ⟨any_reads hp.pb (fun y hy => bytesOf_lt sb y hy) hp.bin hp.len, fun y hy => ?_, by omega, by omega, hl⟩
 obtain ⟨i, hi, rfl⟩ := List.getElem_of_mem hy
 have := hp.bin.byte i
 rw [List.getElem?_eq_getElem hi] at this
 exact this
theorem round_true (kd wy : Int) (sb : ByteArray) (w : World) (h1 : -9223372036854775808 ≤ kd ∧ kd ≤ 9223372036854775807) (h2 : -9223372036854775808 ≤ wy ∧ wy ≤ 9223372036854775807) (hO : OrderAt w) (h4 : 4 ≤ w.heap.size) :
  Calls Tryz.prog 7 #[.int .i64 kd, .int .i64 wy, .string sb] w fun e w' => e = .returned (.bool true) ∧ Step (fun _ => False) w w' := by
 have mixed : Tryz.prog.follows .mixedOrders = true := by kernel_rfl
 have HKN := hide (known_ok w hO h4)
 obtain ⟨k, hk, hpk⟩ := pick_ex kd 3 h1.1 h1.2 (by omega) (by omega)
 obtain ⟨v, hv, hpv⟩ := pick_ex wy 3 h2.1 h2.2 (by omega) (by omega)
 have HPK := hide hpk
 have HPV := hide hpv
 have HO := hide hO
 clear hpk hpv hO
 go_enter Tryz.func7, Tryz.ntmps7
 go_wp2_with fail
 refine (unhide HKN).mono ?_
 rintro r w1 ⟨rfl, hs1⟩
 have HS1 := hide hs1
 have hz1 := hs1.size
 clear hs1 HKN
 go_wp2_with fail
 refine (unhide HPK w1).mono ?_
 rintro r wq ⟨rfl, hwq⟩
 rw [hwq]
 clear hwq wq
 go_wp2_with fail
 refine (unhide HPV w1).mono ?_
 rintro r wq ⟨rfl, hwq⟩
 rw [hwq]
 clear hwq wq
 by_cases hbig : 1048576 < sb.size
 ·have hbigz : (sb.size : Int) > 1048576 := by omega
  go_wp2_with fail
  go_ret
  exact ⟨rfl, unhide HS1⟩
 ·have hbigz : ¬ (sb.size : Int) > 1048576 := by omega
  have hsz : sb.size ≤ 1048576 := by omega
  have hpack : ∀ (W : World) (v : Nat), v < 3 → Step (fun _ => False) w W → ∃ (kc : Nat) (W5 : World), sb.size ≤ kc ∧ Step (fun _ => False) w W5 ∧ W.heap.size ≤ W5.heap.size ∧
    (convert 9 31 (.string sb)).run Tryz.prog W = .ok (.slice (some ⟨W.heap.size, 0, none⟩) sb.size kc) W5 ∧
    Calls Tryz.prog 26 #[.int .i64 (k : Nat), .int .i64 (v : Nat), .slice (some ⟨W.heap.size, 0, none⟩) sb.size kc] W5 (fun e w' => ∃ (g c : Nat) (bits : List Bool) (P : List Nat), e = .returned (.tuple #[.slice (some ⟨g, 0, none⟩) (aroundK k P (bytesOf sb)).length c, .int .i64 0]) ∧ AnyPb v (bytesOf sb) bits ∧ P.length = (bits.length + 7) / 8 ∧ ReadsAs P (bytesOf sb) ∧ AllB P ∧ P.length ≤ 8388000 ∧ 0 < P.length ∧ Go.Bel.Src w' g 0 (aroundK k P (bytesOf sb)) ∧ g < w'.heap.size ∧ Step (fun _ => False) w w') := by
   intro W v hv hW
   have hconv := conv_str W sb
   have hcap := grownCap_ge W sb.size 0 5
   have hbi := str_bytes W sb (grownCap W sb.size 0 5) ((bytesRow sb (grownCap W sb.size 0 5)).size, (bytesRow sb (grownCap W sb.size 0 5)).size + 1) hcap (by omega)
   have hst5 := str_step W (.cells (bytesRow sb (grownCap W sb.size 0 5)) 5 ((bytesRow sb (grownCap W sb.size 0 5)).size, (bytesRow sb (grownCap W sb.size 0 5)).size + 1))
   have h05 := hW.trans hst5
   refine ⟨_, _, hcap, h05, hst5.size, hconv, ?_⟩
   refine (pack_say k v (by omega) (by omega) _ _ _ (any_said v (bytesOf sb) (by omega) (by rw [bytesOf_length]; omega)) _ hbi ((unhide HO).step h05 (fun _ _ x => x)) (by have := h05.size; omega)).mono ?_
   rintro e w' ⟨v', bits, P, rfl, hp⟩
   obtain ⟨a1, a2, a3, a4, a5⟩ := pack_facts hp hsz
   have hl := around_len k P (bytesOf sb)
   obtain ⟨g, c, rfl, hS, hg, _⟩ := src_own hp.row (around_byte k P _ a2) (by omega) (by omega)
   exact ⟨g, c, bits, P, rfl, hp.pb, a5, a1, a2, a4, a3, hS, hg, h05.trans hp.st⟩
  have HPACK := hide hpack
  clear hpack
  obtain ⟨kc, W5, hkc, hW5, hzW5, hconv, hP5⟩ := unhide HPACK w1 v hv (unhide HS1)
  have HP5 := hide hP5
  clear hP5
  go_upto_region 7 with (first
   | (go_at_call 26; refine (unhide HP5).mono ?_; rintro r w6 ⟨gp, cp, bits6, P6, rfl, hp6⟩; have HX6 := hide hp6; clear hp6))
  obtain ⟨hpb6, hlen6, hR6, hPb6, hPl6, hP06, hS6, hg6, hst6⟩ := unhide HX6
  have hal := around_len k P6 (bytesOf sb)
  have hQB := around_byte k P6 (bytesOf sb) hPb6
  obtain ⟨L, hL⟩ : ∃ L, L = (aroundK k P6 (bytesOf sb)).length := ⟨_, rfl⟩
  have hz6 := hst6.size
  have hunp : ∀ (W : World) (most : Nat), Step (fun _ => False) w6 W → most ≤ 1048576 → Calls Tryz.prog 25 #[.int .i64 (k : Nat), .slice (some ⟨gp, 0, none⟩) L cp, .int .i64 (most : Nat)] W
    (fun r w' => ∃ v', r = .returned (.agg #[.int .i64 ((if sb.size ≤ most then 0 else 11 : Nat) : Int), v', .int .i64 ((if sb.size ≤ most then L else 0 : Nat) : Int), .string ⟨#[]⟩]) ∧ w'.ownsRow W.heap.size 5 1 v' ((bytesOf sb).take most).length (u8s ((bytesOf sb).take most)) ∧ Step (fun _ => False) W w') := by
   intro W most hW hm
   have := unpackK_src k gp cp (by omega) P6 (bytesOf sb) [] most W (by rw [List.append_nil]; exact hS6.step hW (fun x => x)) (by have := hW.size; omega) hR6 (by rw [List.append_nil]; exact hQB) (by rw [List.append_nil]; omega) ((unhide HO).step (hst6.trans hW) (fun _ _ x => x)) (by have := hW.size; omega) (by rw [bytesOf_length]; omega) hm
   rw [List.append_nil, bytesOf_length, ← hL] at this
   exact this
  have k1 := hunp w6 sb.size (Step.refl _ _) hsz
  rw [if_pos (Nat.le_refl _), if_pos (Nat.le_refl _), List.take_of_length_le (by rw [bytesOf_length]; exact Nat.le_refl _), bytesOf_length] at k1
  have K1 := hide k1
  have HUNP := hide hunp
  have HST6 := hide hst6
  have HLL := hide hL
  rw [← hL]
  clear hunp k1 hR6 hPb6 hPl6 hP06 hS6 hg6 hst6 hal hQB hL hlen6 HP5 hconv HX6
  clear hpb6
  go_upto_region 8 with (first
   | (go_at_call 25; refine (unhide K1).mono ?_; rintro r w7 ⟨v7, rfl, hown7, hst7⟩; obtain ⟨xa, xc, hv7⟩ := own_slice hown7; subst hv7; have HX7 := hide (And.intro hown7 hst7); clear hown7 hst7))
  obtain ⟨hown7, hst7⟩ := unhide HX7
  obtain ⟨w8, hw8⟩ : ∃ w8, w8 = w7.alloc (.cells #[.int .i64 0, .slice xa sb.size xc, .int .i64 (L : Nat), .string ⟨#[]⟩] 45) := ⟨_, rfl⟩
  rw [← hw8]
  have hst78 : Step (fun _ => False) w7 w8 := by rw [hw8]; exact (Step.refl _ _).alloc _
  have hT8 : w8.heap[w7.heap.size]? = some (.cells #[.int .i64 0, .slice xa sb.size xc, .int .i64 (L : Nat), .string ⟨#[]⟩] 45 (0, 0)) := by rw [hw8]; exact heap_alloc_new _ _
  obtain ⟨T, hT⟩ : ∃ T, T = w7.heap.size := ⟨_, rfl⟩
  rw [← hT] at hT8 ⊢
  have hT8l := lt_of_block hT8
  have t0 := blk_cell hT8 0 _ rfl
  have t1 := blk_cell hT8 1 _ rfl
  have t2 := blk_cell hT8 2 _ rfl
  have t3 := blk_cell hT8 3 _ rfl
  have how8 : w8.ownsRow w6.heap.size 5 1 (.slice xa sb.size xc) (bytesOf sb).length (u8s (bytesOf sb)) := by rw [bytesOf_length]; exact ownsRow_of_block hown7 (fun k hk => hst78.block k (hown7.lt k hk).2 (fun x => x))
  have cv0 := owned_string (s := sb) (W := w8) how8 (fun _ _ => rfl)
  have cv1 := owned_string (s := sb) (W := w8.drew) how8 (fun _ _ => rfl)
  have hst68 := hst7.trans hst78
  have hst08 := (unhide HST6).trans hst68
  have HST68 := hide hst68
  have HST8 := hide hst08
  have hz8 := hst08.size
  clear hw8 hst78 hT8 hT hown7 hst7 how8 hst68 hst08 HX7 K1
  go_upto_if 74 with fail
  go_cut [] (fun wd => Hid (Step (fun _ => False) w wd))
  case first =>
   by_cases hpos : 0 < sb.size
   ·have hposz : (0 : Int) < (sb.size : Int) := by omega
    have hposy : (sb.size : Int) > 0 := by omega
    have k2 := unhide HUNP w8 (sb.size - 1) (unhide HST68) (by omega)
    rw [if_neg (by omega), if_neg (by omega)] at k2
    have hm1 : ((sb.size - 1 : Nat) : Int) = (sb.size : Int) - 1 := by omega
    rw [hm1] at k2
    have htl : ((bytesOf sb).take (sb.size - 1)).length = sb.size - 1 := by rw [List.length_take, bytesOf_length]; omega
    rw [htl] at k2
    have K2 := hide k2
    clear k2 hm1 htl
    go_upto_region 12 with (first
     | (go_at_call 25; refine (unhide K2).mono ?_; rintro r w9 ⟨v9, rfl, hown9, hst9⟩; obtain ⟨ya, yc, hv9⟩ := own_slice hown9; subst hv9; have HX9 := hide (And.intro hown9 hst9); clear hown9 hst9))
    obtain ⟨hown9, hst9⟩ := unhide HX9
    obtain ⟨wa, hwa⟩ : ∃ wa, wa = w9.alloc (.cells #[.int .i64 11, .slice ya (sb.size - 1) yc, .int .i64 0, .string ⟨#[]⟩] 45) := ⟨_, rfl⟩
    rw [← hwa]
    have hst9a : Step (fun _ => False) w9 wa := by rw [hwa]; exact (Step.refl _ _).alloc _
    have hUa : wa.heap[w9.heap.size]? = some (.cells #[.int .i64 11, .slice ya (sb.size - 1) yc, .int .i64 0, .string ⟨#[]⟩] 45 (0, 0)) := by rw [hwa]; exact heap_alloc_new _ _
    obtain ⟨U, hU⟩ : ∃ U, U = w9.heap.size := ⟨_, rfl⟩
    rw [← hU] at hUa ⊢
    have hUl := lt_of_block hUa
    have a0 := blk_cell hUa 0 _ rfl
    have a1 := blk_cell hUa 1 _ rfl
    have hex : bytesOf (sb.extract 0 (sb.size - 1)) = (bytesOf sb).take (sb.size - 1) := bytesOf_first sb _
    have htl : ((bytesOf sb).take (sb.size - 1)).length = sb.size - 1 := by rw [List.length_take, bytesOf_length]; omega
    have how9 : wa.ownsRow w8.heap.size 5 1 (.slice ya (sb.size - 1) yc) (bytesOf (sb.extract 0 (sb.size - 1))).length (u8s (bytesOf (sb.extract 0 (sb.size - 1)))) := by rw [hex, htl]; exact ownsRow_of_block hown9 (fun k hk => hst9a.block k (hown9.lt k hk).2 (fun x => x))
    have cw0 := owned_string (s := sb.extract 0 (sb.size - 1)) (W := wa) how9 (fun _ _ => rfl)
    have cw1 := owned_string (s := sb.extract 0 (sb.size - 1)) (W := wa.drew) how9 (fun _ _ => rfl)
    have HSTA := hide ((unhide HST8).trans (hst9.trans hst9a))
    obtain ⟨q, hq⟩ : ∃ q, q = sb.size - 1 := ⟨_, rfl⟩
    rw [← hq] at cw0 cw1 a1
    have q1 : (sb.size : Int) - 1 = (q : Int) := by omega
    have q2 : (q : Int) ≤ (sb.size : Int) := by omega
    have q3 : (0 : Int) ≤ (q : Int) := by omega
    clear hwa hst9a hUa hU hown9 hst9 how9 hex htl HX9 K2 hq
    go_big_region_o
    go_wp2_with fail
    go_meet
    exact (unhide HSTA).drew
   ·have hposz : ¬ (0 : Int) < (sb.size : Int) := by omega
    have hposy : ¬ (sb.size : Int) > 0 := by omega
    go_wp2_with fail
    go_meet
    exact HST8
  case rest =>
   clear HUNP HST68 HST6 HST8 cv0 cv1 t0 t1 t2 t3
   obtain ⟨kx, Wx, hkx, hWx, hzx, hcx, hPx⟩ := unhide HPACK wc 0 (by omega) (unhide hcut)
   have HPX := hide hPx
   clear hPx hcut
   rename_i K9 hK9
   refine hK9 _ _ ?_
   go_upto_region 15 with (first
    | (go_at_call 26; refine (unhide HPX).mono ?_; rintro r wx ⟨gx, cx, xb, Px, rfl, hx⟩; have HXX := hide hx; clear hx))
   have hstx : Step (fun _ => False) w wx := by have h9 := unhide HXX; exact h9.2.2.2.2.2.2.2.2
   obtain ⟨ky, Wy, hky, hWy, hzy, hcy, hPy⟩ := unhide HPACK wx 1 (by omega) hstx
   have HPY := hide hPy
   obtain ⟨Lx, hLx⟩ : ∃ L, L = (aroundK k Px (bytesOf sb)).length := ⟨_, rfl⟩
   rw [← hLx]
   have HLX := hide hLx
   clear hPy hstx hcx HPX hLx
   go_upto_region 16 with (first
    | (go_at_call 26; refine (unhide HPY).mono ?_; rintro r wy ⟨gy, cy, yb, Py, rfl, hy⟩; have HYY := hide hy; clear hy))
   have hsty : Step (fun _ => False) w wy := by have h9 := unhide HYY; exact h9.2.2.2.2.2.2.2.2
   obtain ⟨kz, Wz, hkz, hWz, hzz, hcz, hPz⟩ := unhide HPACK wy 2 (by omega) hsty
   have HPZ := hide hPz
   obtain ⟨Ly, hLy⟩ : ∃ L, L = (aroundK k Py (bytesOf sb)).length := ⟨_, rfl⟩
   rw [← hLy]
   have HLY := hide hLy
   clear hPz hsty hcy HPY hLy
   go_upto_region 17 with (first
    | (go_at_call 26; refine (unhide HPZ).mono ?_; rintro r wz ⟨gz, cz, zb, Pz, rfl, hz⟩; have HZZ := hide hz; clear hz))
   obtain ⟨Lz, hLz⟩ : ∃ L, L = (aroundK k Pz (bytesOf sb)).length := ⟨_, rfl⟩
   rw [← hLz]
   have hstz : Step (fun _ => False) w wz := by have h9 := unhide HZZ; exact h9.2.2.2.2.2.2.2.2
   have hle : Lz ≤ Lx ∧ Lz ≤ Ly := by
    have x1 := (unhide HXX).1
    have x2 := (unhide HXX).2.1
    have y1 := (unhide HYY).1
    have y2 := (unhide HYY).2.1
    have z1 := (unhide HZZ).1
    have z2 := (unhide HZZ).2.1
    have x3 : StoR 0 (bytesOf sb) xb := by
     rcases x1 with ⟨_, h⟩ | ⟨h, _⟩ | ⟨h, _⟩
     ·exact h
     ·omega
     ·omega
    have y3 : FixPk (bytesOf sb) yb := by
     rcases y1 with ⟨h, _⟩ | ⟨_, h⟩ | ⟨h, _⟩
     ·omega
     ·exact h
     ·omega
    have z3 : BestPb (bytesOf sb) zb := by
     rcases z1 with ⟨h, _⟩ | ⟨h, _⟩ | ⟨_, h⟩
     ·omega
     ·omega
     ·exact h
    have hb := best_least z3 x3 y3
    have e1 := unhide HLX
    have e2 := unhide HLY
    rw [around_more] at e1 e2 hLz
    omega
   have le1 : (Lz : Int) ≤ (Lx : Int) := by omega
   have le2 : (Lz : Int) ≤ (Ly : Int) := by omega
   have HSTZ := hide hstz
   clear hLz hstz hle hcz HPZ
   go_wp2_with fail
   go_ret
   exact ⟨rfl, unhide HSTZ⟩
end Go.Proofs.YtbpahojchgpdnaaGreatDoor
