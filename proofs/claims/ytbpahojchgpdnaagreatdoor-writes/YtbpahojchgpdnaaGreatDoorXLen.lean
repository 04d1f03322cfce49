/- Proved here: what the reference's length and distance do. -/
import Derived.Test.YtbpahojchgpdnaaGreatDoorXSym
import Derived.Test.YtbpahojchgpdnaaGreatDoorLens
set_option maxRecDepth 20000
set_option maxHeartbeats 4000000
namespace Go.Proofs.YtbpahojchgpdnaaGreatDoor
open Go.RowKit Go.Bel
def moreX (B : List Nat) (q e l : Nat) : R Nat := if q + e ≤ 8 * B.length then .ok (l + numAt B q e) (q + e) else .miss
theorem moreX_xr (b : ByteArray) (s : XS) (h0 : s.err = 0) (ht : s.at_ ≤ 8 * b.size) (e l : Nat) (he : e ≤ 20) (hl : l ≤ 1000000) : XR (moreX (bytesOf b) s.at_ e l) b s (l + (numX b s e).1) (numX b s e).2 := by
 unfold moreX
 rw [bytesOf_length]
 by_cases h : s.at_ + e ≤ 8 * b.size
 ·rw [if_pos h, numX_ok b s h0 e h]
  exact ⟨rfl, rfl⟩
 ·rw [if_neg h, numX_miss b s h0 ht e (by omega)]
  have h1 := numX_lt b s e
  have h2 : 2 ^ e ≤ 2 ^ 20 := Nat.pow_le_pow_right (by omega) he
  refine ⟨by omega, 8 * b.size, Nat.le_refl _, rfl⟩
theorem lengthX_any (x base c : Nat) (b : ByteArray) (s : XS) (w : World) (h : XAt w x base b s) (h0 : s.err = 0) (hc : 257 ≤ c) (hc2 : c ≤ 285) :
  Calls Tryz.prog 169 #[.pointer (some ⟨x, 0, none⟩), .int .i64 (c : Nat)] w fun r w' => ∃ y s', r = .returned (nat y) ∧ XR (rLength (bytesOf b) s.at_ c) b s y s' ∧ XAt w' x base b s' ∧ Wrt x w s.v w' s.v := by
 have ht := h.there
 obtain ⟨res, hre⟩ : ∃ r, r = rLength (bytesOf b) s.at_ c := ⟨_, rfl⟩
 rw [← hre]
 have HH := hide h
 clear h
 by_cases h2 : c ≤ 264
 ·have hr : res = .ok (c - 257 + 3) s.at_ := by rw [hre]; unfold rLength; rw [if_neg (by omega), if_neg (by omega), if_pos (by omega)]
  have HR := hide hr
  clear hre hr
  go_enter Tryz.func169, Tryz.ntmps169
  go_wp2_with fail
  go_ret
  have e9 : (c : Int) - 254 = ((c - 257 + 3 : Nat) : Int) := by omega
  rw [e9]
  exact ⟨c - 257 + 3, s, rfl, by rw [unhide HR]; exact ⟨rfl, rfl⟩, unhide HH, Wrt.refl _ _ _⟩
 by_cases h3 : c = 285
 ·subst h3
  have HR := hide (show res = .ok 258 s.at_ by rw [hre]; rfl)
  clear hre
  go_enter Tryz.func169, Tryz.ntmps169
  go_wp2_with fail
  go_ret
  exact ⟨258, s, rfl, by rw [unhide HR]; exact ⟨rfl, rfl⟩, unhide HH, Wrt.refl _ _ _⟩
 have hcs : c = 265 ∨ c = 266 ∨ c = 267 ∨ c = 268 ∨ c = 269 ∨ c = 270 ∨ c = 271 ∨ c = 272 ∨ c = 273 ∨ c = 274 ∨ c = 275 ∨ c = 276 ∨ c = 277 ∨ c = 278 ∨ c = 279 ∨ c = 280 ∨ c = 281 ∨ c = 282 ∨ c = 283 ∨ c = 284 := by omega
 clear h2 h3 hc hc2
 rcases hcs with rfl | rfl | rfl | rfl | rfl | rfl | rfl | rfl | rfl | rfl | rfl | rfl | rfl | rfl | rfl | rfl | rfl | rfl | rfl | rfl
 ·rw [rLength_bits (bytesOf b) s.at_ 265 1 11 (by omega) (by omega) rfl rfl] at hre
  have hxr := moreX_xr b s h0 ht 1 11 (by omega) (by omega)
  unfold moreX at hxr
  rw [← hre] at hxr
  have HXR := hide hxr
  have hnl := numX_lt b s 1
  clear hxr hre
  go_enter Tryz.func169, Tryz.ntmps169
  go_wp2_with fail
  refine (number_any x base 1 b s w (unhide HH) (by omega)).mono ?_
  rintro e w1 ⟨rfl, hx1, hw1⟩
  have HX1 := hide hx1
  have HW1 := hide hw1
  clear hx1 hw1
  go_wp2_with fail
  go_ret
  exact ⟨11 + (numX b s 1).1, _, rfl, unhide HXR, unhide HX1, unhide HW1⟩
 ·rw [rLength_bits (bytesOf b) s.at_ 266 1 13 (by omega) (by omega) rfl rfl] at hre
  have hxr := moreX_xr b s h0 ht 1 13 (by omega) (by omega)
  unfold moreX at hxr
  rw [← hre] at hxr
  have HXR := hide hxr
  have hnl := numX_lt b s 1
  clear hxr hre
  go_enter Tryz.func169, Tryz.ntmps169
  go_wp2_with fail
  refine (number_any x base 1 b s w (unhide HH) (by omega)).mono ?_
  rintro e w1 ⟨rfl, hx1, hw1⟩
  have HX1 := hide hx1
  have HW1 := hide hw1
  clear hx1 hw1
  go_wp2_with fail
  go_ret
  exact ⟨13 + (numX b s 1).1, _, rfl, unhide HXR, unhide HX1, unhide HW1⟩
 ·rw [rLength_bits (bytesOf b) s.at_ 267 1 15 (by omega) (by omega) rfl rfl] at hre
  have hxr := moreX_xr b s h0 ht 1 15 (by omega) (by omega)
  unfold moreX at hxr
  rw [← hre] at hxr
  have HXR := hide hxr
  have hnl := numX_lt b s 1
  clear hxr hre
  go_enter Tryz.func169, Tryz.ntmps169
  go_wp2_with fail
  refine (number_any x base 1 b s w (unhide HH) (by omega)).mono ?_
  rintro e w1 ⟨rfl, hx1, hw1⟩
  have HX1 := hide hx1
  have HW1 := hide hw1
  clear hx1 hw1
  go_wp2_with fail
  go_ret
  exact ⟨15 + (numX b s 1).1, _, rfl, unhide HXR, unhide HX1, unhide HW1⟩
 ·rw [rLength_bits (bytesOf b) s.at_ 268 1 17 (by omega) (by omega) rfl rfl] at hre
  have hxr := moreX_xr b s h0 ht 1 17 (by omega) (by omega)
  unfold moreX at hxr
  rw [← hre] at hxr
  have HXR := hide hxr
  have hnl := numX_lt b s 1
  clear hxr hre
  go_enter Tryz.func169, Tryz.ntmps169
  go_wp2_with fail
  refine (number_any x base 1 b s w (unhide HH) (by omega)).mono ?_
  rintro e w1 ⟨rfl, hx1, hw1⟩
  have HX1 := hide hx1
  have HW1 := hide hw1
  clear hx1 hw1
  go_wp2_with fail
  go_ret
  exact ⟨17 + (numX b s 1).1, _, rfl, unhide HXR, unhide HX1, unhide HW1⟩
 ·rw [rLength_bits (bytesOf b) s.at_ 269 2 19 (by omega) (by omega) rfl rfl] at hre
  have hxr := moreX_xr b s h0 ht 2 19 (by omega) (by omega)
  unfold moreX at hxr
  rw [← hre] at hxr
  have HXR := hide hxr
  have hnl := numX_lt b s 2
  clear hxr hre
  go_enter Tryz.func169, Tryz.ntmps169
  go_wp2_with fail
  refine (number_any x base 2 b s w (unhide HH) (by omega)).mono ?_
  rintro e w1 ⟨rfl, hx1, hw1⟩
  have HX1 := hide hx1
  have HW1 := hide hw1
  clear hx1 hw1
  go_wp2_with fail
  go_ret
  exact ⟨19 + (numX b s 2).1, _, rfl, unhide HXR, unhide HX1, unhide HW1⟩
 ·rw [rLength_bits (bytesOf b) s.at_ 270 2 23 (by omega) (by omega) rfl rfl] at hre
  have hxr := moreX_xr b s h0 ht 2 23 (by omega) (by omega)
  unfold moreX at hxr
  rw [← hre] at hxr
  have HXR := hide hxr
  have hnl := numX_lt b s 2
  clear hxr hre
  go_enter Tryz.func169, Tryz.ntmps169
  go_wp2_with fail
  refine (number_any x base 2 b s w (unhide HH) (by omega)).mono ?_
  rintro e w1 ⟨rfl, hx1, hw1⟩
  have HX1 := hide hx1
  have HW1 := hide hw1
  clear hx1 hw1
  go_wp2_with fail
  go_ret
  exact ⟨23 + (numX b s 2).1, _, rfl, unhide HXR, unhide HX1, unhide HW1⟩
 ·rw [rLength_bits (bytesOf b) s.at_ 271 2 27 (by omega) (by omega) rfl rfl] at hre
  have hxr := moreX_xr b s h0 ht 2 27 (by omega) (by omega)
  unfold moreX at hxr
  rw [← hre] at hxr
  have HXR := hide hxr
  have hnl := numX_lt b s 2
  clear hxr hre
  go_enter Tryz.func169, Tryz.ntmps169
  go_wp2_with fail
  refine (number_any x base 2 b s w (unhide HH) (by omega)).mono ?_
  rintro e w1 ⟨rfl, hx1, hw1⟩
  have HX1 := hide hx1
  have HW1 := hide hw1
  clear hx1 hw1
  go_wp2_with fail
  go_ret
  exact ⟨27 + (numX b s 2).1, _, rfl, unhide HXR, unhide HX1, unhide HW1⟩
 ·rw [rLength_bits (bytesOf b) s.at_ 272 2 31 (by omega) (by omega) rfl rfl] at hre
  have hxr := moreX_xr b s h0 ht 2 31 (by omega) (by omega)
  unfold moreX at hxr
  rw [← hre] at hxr
  have HXR := hide hxr
  have hnl := numX_lt b s 2
  clear hxr hre
  go_enter Tryz.func169, Tryz.ntmps169
  go_wp2_with fail
  refine (number_any x base 2 b s w (unhide HH) (by omega)).mono ?_
  rintro e w1 ⟨rfl, hx1, hw1⟩
  have HX1 := hide hx1
  have HW1 := hide hw1
  clear hx1 hw1
  go_wp2_with fail
  go_ret
  exact ⟨31 + (numX b s 2).1, _, rfl, unhide HXR, unhide HX1, unhide HW1⟩
 ·rw [rLength_bits (bytesOf b) s.at_ 273 3 35 (by omega) (by omega) rfl rfl] at hre
  have hxr := moreX_xr b s h0 ht 3 35 (by omega) (by omega)
  unfold moreX at hxr
  rw [← hre] at hxr
  have HXR := hide hxr
  have hnl := numX_lt b s 3
  clear hxr hre
  go_enter Tryz.func169, Tryz.ntmps169
  go_wp2_with fail
  refine (number_any x base 3 b s w (unhide HH) (by omega)).mono ?_
  rintro e w1 ⟨rfl, hx1, hw1⟩
  have HX1 := hide hx1
  have HW1 := hide hw1
  clear hx1 hw1
  go_wp2_with fail
  go_ret
  exact ⟨35 + (numX b s 3).1, _, rfl, unhide HXR, unhide HX1, unhide HW1⟩
 ·rw [rLength_bits (bytesOf b) s.at_ 274 3 43 (by omega) (by omega) rfl rfl] at hre
  have hxr := moreX_xr b s h0 ht 3 43 (by omega) (by omega)
  unfold moreX at hxr
  rw [← hre] at hxr
  have HXR := hide hxr
  have hnl := numX_lt b s 3
  clear hxr hre
  go_enter Tryz.func169, Tryz.ntmps169
  go_wp2_with fail
  refine (number_any x base 3 b s w (unhide HH) (by omega)).mono ?_
  rintro e w1 ⟨rfl, hx1, hw1⟩
  have HX1 := hide hx1
  have HW1 := hide hw1
  clear hx1 hw1
  go_wp2_with fail
  go_ret
  exact ⟨43 + (numX b s 3).1, _, rfl, unhide HXR, unhide HX1, unhide HW1⟩
 ·rw [rLength_bits (bytesOf b) s.at_ 275 3 51 (by omega) (by omega) rfl rfl] at hre
  have hxr := moreX_xr b s h0 ht 3 51 (by omega) (by omega)
  unfold moreX at hxr
  rw [← hre] at hxr
  have HXR := hide hxr
  have hnl := numX_lt b s 3
  clear hxr hre
  go_enter Tryz.func169, Tryz.ntmps169
  go_wp2_with fail
  refine (number_any x base 3 b s w (unhide HH) (by omega)).mono ?_
  rintro e w1 ⟨rfl, hx1, hw1⟩
  have HX1 := hide hx1
  have HW1 := hide hw1
  clear hx1 hw1
  go_wp2_with fail
  go_ret
  exact ⟨51 + (numX b s 3).1, _, rfl, unhide HXR, unhide HX1, unhide HW1⟩
 ·rw [rLength_bits (bytesOf b) s.at_ 276 3 59 (by omega) (by omega) rfl rfl] at hre
  have hxr := moreX_xr b s h0 ht 3 59 (by omega) (by omega)
  unfold moreX at hxr
  rw [← hre] at hxr
  have HXR := hide hxr
  have hnl := numX_lt b s 3
  clear hxr hre
  go_enter Tryz.func169, Tryz.ntmps169
  go_wp2_with fail
  refine (number_any x base 3 b s w (unhide HH) (by omega)).mono ?_
  rintro e w1 ⟨rfl, hx1, hw1⟩
  have HX1 := hide hx1
  have HW1 := hide hw1
  clear hx1 hw1
  go_wp2_with fail
  go_ret
  exact ⟨59 + (numX b s 3).1, _, rfl, unhide HXR, unhide HX1, unhide HW1⟩
 ·rw [rLength_bits (bytesOf b) s.at_ 277 4 67 (by omega) (by omega) rfl rfl] at hre
  have hxr := moreX_xr b s h0 ht 4 67 (by omega) (by omega)
  unfold moreX at hxr
  rw [← hre] at hxr
  have HXR := hide hxr
  have hnl := numX_lt b s 4
  clear hxr hre
  go_enter Tryz.func169, Tryz.ntmps169
  go_wp2_with fail
  refine (number_any x base 4 b s w (unhide HH) (by omega)).mono ?_
  rintro e w1 ⟨rfl, hx1, hw1⟩
  have HX1 := hide hx1
  have HW1 := hide hw1
  clear hx1 hw1
  go_wp2_with fail
  go_ret
  exact ⟨67 + (numX b s 4).1, _, rfl, unhide HXR, unhide HX1, unhide HW1⟩
 ·rw [rLength_bits (bytesOf b) s.at_ 278 4 83 (by omega) (by omega) rfl rfl] at hre
  have hxr := moreX_xr b s h0 ht 4 83 (by omega) (by omega)
  unfold moreX at hxr
  rw [← hre] at hxr
  have HXR := hide hxr
  have hnl := numX_lt b s 4
  clear hxr hre
  go_enter Tryz.func169, Tryz.ntmps169
  go_wp2_with fail
  refine (number_any x base 4 b s w (unhide HH) (by omega)).mono ?_
  rintro e w1 ⟨rfl, hx1, hw1⟩
  have HX1 := hide hx1
  have HW1 := hide hw1
  clear hx1 hw1
  go_wp2_with fail
  go_ret
  exact ⟨83 + (numX b s 4).1, _, rfl, unhide HXR, unhide HX1, unhide HW1⟩
 ·rw [rLength_bits (bytesOf b) s.at_ 279 4 99 (by omega) (by omega) rfl rfl] at hre
  have hxr := moreX_xr b s h0 ht 4 99 (by omega) (by omega)
  unfold moreX at hxr
  rw [← hre] at hxr
  have HXR := hide hxr
  have hnl := numX_lt b s 4
  clear hxr hre
  go_enter Tryz.func169, Tryz.ntmps169
  go_wp2_with fail
  refine (number_any x base 4 b s w (unhide HH) (by omega)).mono ?_
  rintro e w1 ⟨rfl, hx1, hw1⟩
  have HX1 := hide hx1
  have HW1 := hide hw1
  clear hx1 hw1
  go_wp2_with fail
  go_ret
  exact ⟨99 + (numX b s 4).1, _, rfl, unhide HXR, unhide HX1, unhide HW1⟩
 ·rw [rLength_bits (bytesOf b) s.at_ 280 4 115 (by omega) (by omega) rfl rfl] at hre
  have hxr := moreX_xr b s h0 ht 4 115 (by omega) (by omega)
  unfold moreX at hxr
  rw [← hre] at hxr
  have HXR := hide hxr
  have hnl := numX_lt b s 4
  clear hxr hre
  go_enter Tryz.func169, Tryz.ntmps169
  go_wp2_with fail
  refine (number_any x base 4 b s w (unhide HH) (by omega)).mono ?_
  rintro e w1 ⟨rfl, hx1, hw1⟩
  have HX1 := hide hx1
  have HW1 := hide hw1
  clear hx1 hw1
  go_wp2_with fail
  go_ret
  exact ⟨115 + (numX b s 4).1, _, rfl, unhide HXR, unhide HX1, unhide HW1⟩
 ·rw [rLength_bits (bytesOf b) s.at_ 281 5 131 (by omega) (by omega) rfl rfl] at hre
  have hxr := moreX_xr b s h0 ht 5 131 (by omega) (by omega)
  unfold moreX at hxr
  rw [← hre] at hxr
  have HXR := hide hxr
  have hnl := numX_lt b s 5
  clear hxr hre
  go_enter Tryz.func169, Tryz.ntmps169
  go_wp2_with fail
  refine (number_any x base 5 b s w (unhide HH) (by omega)).mono ?_
  rintro e w1 ⟨rfl, hx1, hw1⟩
  have HX1 := hide hx1
  have HW1 := hide hw1
  clear hx1 hw1
  go_wp2_with fail
  go_ret
  exact ⟨131 + (numX b s 5).1, _, rfl, unhide HXR, unhide HX1, unhide HW1⟩
 ·rw [rLength_bits (bytesOf b) s.at_ 282 5 163 (by omega) (by omega) rfl rfl] at hre
  have hxr := moreX_xr b s h0 ht 5 163 (by omega) (by omega)
  unfold moreX at hxr
  rw [← hre] at hxr
  have HXR := hide hxr
  have hnl := numX_lt b s 5
  clear hxr hre
  go_enter Tryz.func169, Tryz.ntmps169
  go_wp2_with fail
  refine (number_any x base 5 b s w (unhide HH) (by omega)).mono ?_
  rintro e w1 ⟨rfl, hx1, hw1⟩
  have HX1 := hide hx1
  have HW1 := hide hw1
  clear hx1 hw1
  go_wp2_with fail
  go_ret
  exact ⟨163 + (numX b s 5).1, _, rfl, unhide HXR, unhide HX1, unhide HW1⟩
 ·rw [rLength_bits (bytesOf b) s.at_ 283 5 195 (by omega) (by omega) rfl rfl] at hre
  have hxr := moreX_xr b s h0 ht 5 195 (by omega) (by omega)
  unfold moreX at hxr
  rw [← hre] at hxr
  have HXR := hide hxr
  have hnl := numX_lt b s 5
  clear hxr hre
  go_enter Tryz.func169, Tryz.ntmps169
  go_wp2_with fail
  refine (number_any x base 5 b s w (unhide HH) (by omega)).mono ?_
  rintro e w1 ⟨rfl, hx1, hw1⟩
  have HX1 := hide hx1
  have HW1 := hide hw1
  clear hx1 hw1
  go_wp2_with fail
  go_ret
  exact ⟨195 + (numX b s 5).1, _, rfl, unhide HXR, unhide HX1, unhide HW1⟩
 ·rw [rLength_bits (bytesOf b) s.at_ 284 5 227 (by omega) (by omega) rfl rfl] at hre
  have hxr := moreX_xr b s h0 ht 5 227 (by omega) (by omega)
  unfold moreX at hxr
  rw [← hre] at hxr
  have HXR := hide hxr
  have hnl := numX_lt b s 5
  clear hxr hre
  go_enter Tryz.func169, Tryz.ntmps169
  go_wp2_with fail
  refine (number_any x base 5 b s w (unhide HH) (by omega)).mono ?_
  rintro e w1 ⟨rfl, hx1, hw1⟩
  have HX1 := hide hx1
  have HW1 := hide hw1
  clear hx1 hw1
  go_wp2_with fail
  go_ret
  exact ⟨227 + (numX b s 5).1, _, rfl, unhide HXR, unhide HX1, unhide HW1⟩
def distTail (B : List Nat) (q s : Nat) : R Nat := if s < 4 then .ok (s + 1) q else moreX B q (s / 2 - 1) ((2 + s % 2) * 2 ^ (s / 2 - 1) + 1)
theorem distanceX_any (x base c : Nat) (b : ByteArray) (s : XS) (w : World) (h : XAt w x base b s) (h0 : s.err = 0) (hc2 : c < 30) :
  Calls Tryz.prog 170 #[.pointer (some ⟨x, 0, none⟩), .int .i64 (c : Nat)] w fun r w' => ∃ y s', r = .returned (nat y) ∧ XR (distTail (bytesOf b) s.at_ c) b s y s' ∧ XAt w' x base b s' ∧ Wrt x w s.v w' s.v := by
 have ht := h.there
 obtain ⟨res, hre⟩ : ∃ r, r = distTail (bytesOf b) s.at_ c := ⟨_, rfl⟩
 rw [← hre]
 have HH := hide h
 clear h
 by_cases h2 : c < 4
 ·have hr : res = .ok (c + 1) s.at_ := by rw [hre]; unfold distTail; rw [if_pos h2]
  have HR := hide hr
  clear hre hr
  go_enter Tryz.func170, Tryz.ntmps170
  go_wp2_with fail
  go_ret
  exact ⟨c + 1, s, rfl, by rw [unhide HR]; exact ⟨rfl, rfl⟩, unhide HH, Wrt.refl _ _ _⟩
 have hcs : c = 4 ∨ c = 5 ∨ c = 6 ∨ c = 7 ∨ c = 8 ∨ c = 9 ∨ c = 10 ∨ c = 11 ∨ c = 12 ∨ c = 13 ∨ c = 14 ∨ c = 15 ∨ c = 16 ∨ c = 17 ∨ c = 18 ∨ c = 19 ∨ c = 20 ∨ c = 21 ∨ c = 22 ∨ c = 23 ∨ c = 24 ∨ c = 25 ∨ c = 26 ∨ c = 27 ∨ c = 28 ∨ c = 29 := by omega
 clear h2 hc2
 rcases hcs with rfl | rfl | rfl | rfl | rfl | rfl | rfl | rfl | rfl | rfl | rfl | rfl | rfl | rfl | rfl | rfl | rfl | rfl | rfl | rfl | rfl | rfl | rfl | rfl | rfl | rfl
 ·have hre2 : res = moreX (bytesOf b) s.at_ 1 5 := by rw [hre]; rfl
  have hxr := moreX_xr b s h0 ht 1 5 (by omega) (by omega)
  rw [← hre2] at hxr
  have HXR := hide hxr
  have hnl := numX_lt b s 1
  clear hxr hre hre2
  go_enter Tryz.func170, Tryz.ntmps170
  go_wp2_with fail
  refine (number_any x base 1 b s w (unhide HH) (by omega)).mono ?_
  rintro e w1 ⟨rfl, hx1, hw1⟩
  have HX1 := hide hx1
  have HW1 := hide hw1
  clear hx1 hw1
  go_wp2_with fail
  go_ret
  exact ⟨5 + (numX b s 1).1, _, rfl, unhide HXR, unhide HX1, unhide HW1⟩
 ·have hre2 : res = moreX (bytesOf b) s.at_ 1 7 := by rw [hre]; rfl
  have hxr := moreX_xr b s h0 ht 1 7 (by omega) (by omega)
  rw [← hre2] at hxr
  have HXR := hide hxr
  have hnl := numX_lt b s 1
  clear hxr hre hre2
  go_enter Tryz.func170, Tryz.ntmps170
  go_wp2_with fail
  refine (number_any x base 1 b s w (unhide HH) (by omega)).mono ?_
  rintro e w1 ⟨rfl, hx1, hw1⟩
  have HX1 := hide hx1
  have HW1 := hide hw1
  clear hx1 hw1
  go_wp2_with fail
  go_ret
  exact ⟨7 + (numX b s 1).1, _, rfl, unhide HXR, unhide HX1, unhide HW1⟩
 ·have hre2 : res = moreX (bytesOf b) s.at_ 2 9 := by rw [hre]; rfl
  have hxr := moreX_xr b s h0 ht 2 9 (by omega) (by omega)
  rw [← hre2] at hxr
  have HXR := hide hxr
  have hnl := numX_lt b s 2
  clear hxr hre hre2
  go_enter Tryz.func170, Tryz.ntmps170
  go_wp2_with fail
  refine (number_any x base 2 b s w (unhide HH) (by omega)).mono ?_
  rintro e w1 ⟨rfl, hx1, hw1⟩
  have HX1 := hide hx1
  have HW1 := hide hw1
  clear hx1 hw1
  go_wp2_with fail
  go_ret
  exact ⟨9 + (numX b s 2).1, _, rfl, unhide HXR, unhide HX1, unhide HW1⟩
 ·have hre2 : res = moreX (bytesOf b) s.at_ 2 13 := by rw [hre]; rfl
  have hxr := moreX_xr b s h0 ht 2 13 (by omega) (by omega)
  rw [← hre2] at hxr
  have HXR := hide hxr
  have hnl := numX_lt b s 2
  clear hxr hre hre2
  go_enter Tryz.func170, Tryz.ntmps170
  go_wp2_with fail
  refine (number_any x base 2 b s w (unhide HH) (by omega)).mono ?_
  rintro e w1 ⟨rfl, hx1, hw1⟩
  have HX1 := hide hx1
  have HW1 := hide hw1
  clear hx1 hw1
  go_wp2_with fail
  go_ret
  exact ⟨13 + (numX b s 2).1, _, rfl, unhide HXR, unhide HX1, unhide HW1⟩
 ·have hre2 : res = moreX (bytesOf b) s.at_ 3 17 := by rw [hre]; rfl
  have hxr := moreX_xr b s h0 ht 3 17 (by omega) (by omega)
  rw [← hre2] at hxr
  have HXR := hide hxr
  have hnl := numX_lt b s 3
  clear hxr hre hre2
  go_enter Tryz.func170, Tryz.ntmps170
  go_wp2_with fail
  refine (number_any x base 3 b s w (unhide HH) (by omega)).mono ?_
  rintro e w1 ⟨rfl, hx1, hw1⟩
  have HX1 := hide hx1
  have HW1 := hide hw1
  clear hx1 hw1
  go_wp2_with fail
  go_ret
  exact ⟨17 + (numX b s 3).1, _, rfl, unhide HXR, unhide HX1, unhide HW1⟩
 ·have hre2 : res = moreX (bytesOf b) s.at_ 3 25 := by rw [hre]; rfl
  have hxr := moreX_xr b s h0 ht 3 25 (by omega) (by omega)
  rw [← hre2] at hxr
  have HXR := hide hxr
  have hnl := numX_lt b s 3
  clear hxr hre hre2
  go_enter Tryz.func170, Tryz.ntmps170
  go_wp2_with fail
  refine (number_any x base 3 b s w (unhide HH) (by omega)).mono ?_
  rintro e w1 ⟨rfl, hx1, hw1⟩
  have HX1 := hide hx1
  have HW1 := hide hw1
  clear hx1 hw1
  go_wp2_with fail
  go_ret
  exact ⟨25 + (numX b s 3).1, _, rfl, unhide HXR, unhide HX1, unhide HW1⟩
 ·have hre2 : res = moreX (bytesOf b) s.at_ 4 33 := by rw [hre]; rfl
  have hxr := moreX_xr b s h0 ht 4 33 (by omega) (by omega)
  rw [← hre2] at hxr
  have HXR := hide hxr
  have hnl := numX_lt b s 4
  clear hxr hre hre2
  go_enter Tryz.func170, Tryz.ntmps170
  go_wp2_with fail
  refine (number_any x base 4 b s w (unhide HH) (by omega)).mono ?_
  rintro e w1 ⟨rfl, hx1, hw1⟩
  have HX1 := hide hx1
  have HW1 := hide hw1
  clear hx1 hw1
  go_wp2_with fail
  go_ret
  exact ⟨33 + (numX b s 4).1, _, rfl, unhide HXR, unhide HX1, unhide HW1⟩
 ·have hre2 : res = moreX (bytesOf b) s.at_ 4 49 := by rw [hre]; rfl
  have hxr := moreX_xr b s h0 ht 4 49 (by omega) (by omega)
  rw [← hre2] at hxr
  have HXR := hide hxr
  have hnl := numX_lt b s 4
  clear hxr hre hre2
  go_enter Tryz.func170, Tryz.ntmps170
  go_wp2_with fail
  refine (number_any x base 4 b s w (unhide HH) (by omega)).mono ?_
  rintro e w1 ⟨rfl, hx1, hw1⟩
  have HX1 := hide hx1
  have HW1 := hide hw1
  clear hx1 hw1
  go_wp2_with fail
  go_ret
  exact ⟨49 + (numX b s 4).1, _, rfl, unhide HXR, unhide HX1, unhide HW1⟩
 ·have hre2 : res = moreX (bytesOf b) s.at_ 5 65 := by rw [hre]; rfl
  have hxr := moreX_xr b s h0 ht 5 65 (by omega) (by omega)
  rw [← hre2] at hxr
  have HXR := hide hxr
  have hnl := numX_lt b s 5
  clear hxr hre hre2
  go_enter Tryz.func170, Tryz.ntmps170
  go_wp2_with fail
  refine (number_any x base 5 b s w (unhide HH) (by omega)).mono ?_
  rintro e w1 ⟨rfl, hx1, hw1⟩
  have HX1 := hide hx1
  have HW1 := hide hw1
  clear hx1 hw1
  go_wp2_with fail
  go_ret
  exact ⟨65 + (numX b s 5).1, _, rfl, unhide HXR, unhide HX1, unhide HW1⟩
 ·have hre2 : res = moreX (bytesOf b) s.at_ 5 97 := by rw [hre]; rfl
  have hxr := moreX_xr b s h0 ht 5 97 (by omega) (by omega)
  rw [← hre2] at hxr
  have HXR := hide hxr
  have hnl := numX_lt b s 5
  clear hxr hre hre2
  go_enter Tryz.func170, Tryz.ntmps170
  go_wp2_with fail
  refine (number_any x base 5 b s w (unhide HH) (by omega)).mono ?_
  rintro e w1 ⟨rfl, hx1, hw1⟩
  have HX1 := hide hx1
  have HW1 := hide hw1
  clear hx1 hw1
  go_wp2_with fail
  go_ret
  exact ⟨97 + (numX b s 5).1, _, rfl, unhide HXR, unhide HX1, unhide HW1⟩
 ·have hre2 : res = moreX (bytesOf b) s.at_ 6 129 := by rw [hre]; rfl
  have hxr := moreX_xr b s h0 ht 6 129 (by omega) (by omega)
  rw [← hre2] at hxr
  have HXR := hide hxr
  have hnl := numX_lt b s 6
  clear hxr hre hre2
  go_enter Tryz.func170, Tryz.ntmps170
  go_wp2_with fail
  refine (number_any x base 6 b s w (unhide HH) (by omega)).mono ?_
  rintro e w1 ⟨rfl, hx1, hw1⟩
  have HX1 := hide hx1
  have HW1 := hide hw1
  clear hx1 hw1
  go_wp2_with fail
  go_ret
  exact ⟨129 + (numX b s 6).1, _, rfl, unhide HXR, unhide HX1, unhide HW1⟩
 ·have hre2 : res = moreX (bytesOf b) s.at_ 6 193 := by rw [hre]; rfl
  have hxr := moreX_xr b s h0 ht 6 193 (by omega) (by omega)
  rw [← hre2] at hxr
  have HXR := hide hxr
  have hnl := numX_lt b s 6
  clear hxr hre hre2
  go_enter Tryz.func170, Tryz.ntmps170
  go_wp2_with fail
  refine (number_any x base 6 b s w (unhide HH) (by omega)).mono ?_
  rintro e w1 ⟨rfl, hx1, hw1⟩
  have HX1 := hide hx1
  have HW1 := hide hw1
  clear hx1 hw1
  go_wp2_with fail
  go_ret
  exact ⟨193 + (numX b s 6).1, _, rfl, unhide HXR, unhide HX1, unhide HW1⟩
 ·have hre2 : res = moreX (bytesOf b) s.at_ 7 257 := by rw [hre]; rfl
  have hxr := moreX_xr b s h0 ht 7 257 (by omega) (by omega)
  rw [← hre2] at hxr
  have HXR := hide hxr
  have hnl := numX_lt b s 7
  clear hxr hre hre2
  go_enter Tryz.func170, Tryz.ntmps170
  go_wp2_with fail
  refine (number_any x base 7 b s w (unhide HH) (by omega)).mono ?_
  rintro e w1 ⟨rfl, hx1, hw1⟩
  have HX1 := hide hx1
  have HW1 := hide hw1
  clear hx1 hw1
  go_wp2_with fail
  go_ret
  exact ⟨257 + (numX b s 7).1, _, rfl, unhide HXR, unhide HX1, unhide HW1⟩
 ·have hre2 : res = moreX (bytesOf b) s.at_ 7 385 := by rw [hre]; rfl
  have hxr := moreX_xr b s h0 ht 7 385 (by omega) (by omega)
  rw [← hre2] at hxr
  have HXR := hide hxr
  have hnl := numX_lt b s 7
  clear hxr hre hre2
  go_enter Tryz.func170, Tryz.ntmps170
  go_wp2_with fail
  refine (number_any x base 7 b s w (unhide HH) (by omega)).mono ?_
  rintro e w1 ⟨rfl, hx1, hw1⟩
  have HX1 := hide hx1
  have HW1 := hide hw1
  clear hx1 hw1
  go_wp2_with fail
  go_ret
  exact ⟨385 + (numX b s 7).1, _, rfl, unhide HXR, unhide HX1, unhide HW1⟩
 ·have hre2 : res = moreX (bytesOf b) s.at_ 8 513 := by rw [hre]; rfl
  have hxr := moreX_xr b s h0 ht 8 513 (by omega) (by omega)
  rw [← hre2] at hxr
  have HXR := hide hxr
  have hnl := numX_lt b s 8
  clear hxr hre hre2
  go_enter Tryz.func170, Tryz.ntmps170
  go_wp2_with fail
  refine (number_any x base 8 b s w (unhide HH) (by omega)).mono ?_
  rintro e w1 ⟨rfl, hx1, hw1⟩
  have HX1 := hide hx1
  have HW1 := hide hw1
  clear hx1 hw1
  go_wp2_with fail
  go_ret
  exact ⟨513 + (numX b s 8).1, _, rfl, unhide HXR, unhide HX1, unhide HW1⟩
 ·have hre2 : res = moreX (bytesOf b) s.at_ 8 769 := by rw [hre]; rfl
  have hxr := moreX_xr b s h0 ht 8 769 (by omega) (by omega)
  rw [← hre2] at hxr
  have HXR := hide hxr
  have hnl := numX_lt b s 8
  clear hxr hre hre2
  go_enter Tryz.func170, Tryz.ntmps170
  go_wp2_with fail
  refine (number_any x base 8 b s w (unhide HH) (by omega)).mono ?_
  rintro e w1 ⟨rfl, hx1, hw1⟩
  have HX1 := hide hx1
  have HW1 := hide hw1
  clear hx1 hw1
  go_wp2_with fail
  go_ret
  exact ⟨769 + (numX b s 8).1, _, rfl, unhide HXR, unhide HX1, unhide HW1⟩
 ·have hre2 : res = moreX (bytesOf b) s.at_ 9 1025 := by rw [hre]; rfl
  have hxr := moreX_xr b s h0 ht 9 1025 (by omega) (by omega)
  rw [← hre2] at hxr
  have HXR := hide hxr
  have hnl := numX_lt b s 9
  clear hxr hre hre2
  go_enter Tryz.func170, Tryz.ntmps170
  go_wp2_with fail
  refine (number_any x base 9 b s w (unhide HH) (by omega)).mono ?_
  rintro e w1 ⟨rfl, hx1, hw1⟩
  have HX1 := hide hx1
  have HW1 := hide hw1
  clear hx1 hw1
  go_wp2_with fail
  go_ret
  exact ⟨1025 + (numX b s 9).1, _, rfl, unhide HXR, unhide HX1, unhide HW1⟩
 ·have hre2 : res = moreX (bytesOf b) s.at_ 9 1537 := by rw [hre]; rfl
  have hxr := moreX_xr b s h0 ht 9 1537 (by omega) (by omega)
  rw [← hre2] at hxr
  have HXR := hide hxr
  have hnl := numX_lt b s 9
  clear hxr hre hre2
  go_enter Tryz.func170, Tryz.ntmps170
  go_wp2_with fail
  refine (number_any x base 9 b s w (unhide HH) (by omega)).mono ?_
  rintro e w1 ⟨rfl, hx1, hw1⟩
  have HX1 := hide hx1
  have HW1 := hide hw1
  clear hx1 hw1
  go_wp2_with fail
  go_ret
  exact ⟨1537 + (numX b s 9).1, _, rfl, unhide HXR, unhide HX1, unhide HW1⟩
 ·have hre2 : res = moreX (bytesOf b) s.at_ 10 2049 := by rw [hre]; rfl
  have hxr := moreX_xr b s h0 ht 10 2049 (by omega) (by omega)
  rw [← hre2] at hxr
  have HXR := hide hxr
  have hnl := numX_lt b s 10
  clear hxr hre hre2
  go_enter Tryz.func170, Tryz.ntmps170
  go_wp2_with fail
  refine (number_any x base 10 b s w (unhide HH) (by omega)).mono ?_
  rintro e w1 ⟨rfl, hx1, hw1⟩
  have HX1 := hide hx1
  have HW1 := hide hw1
  clear hx1 hw1
  go_wp2_with fail
  go_ret
  exact ⟨2049 + (numX b s 10).1, _, rfl, unhide HXR, unhide HX1, unhide HW1⟩
 ·have hre2 : res = moreX (bytesOf b) s.at_ 10 3073 := by rw [hre]; rfl
  have hxr := moreX_xr b s h0 ht 10 3073 (by omega) (by omega)
  rw [← hre2] at hxr
  have HXR := hide hxr
  have hnl := numX_lt b s 10
  clear hxr hre hre2
  go_enter Tryz.func170, Tryz.ntmps170
  go_wp2_with fail
  refine (number_any x base 10 b s w (unhide HH) (by omega)).mono ?_
  rintro e w1 ⟨rfl, hx1, hw1⟩
  have HX1 := hide hx1
  have HW1 := hide hw1
  clear hx1 hw1
  go_wp2_with fail
  go_ret
  exact ⟨3073 + (numX b s 10).1, _, rfl, unhide HXR, unhide HX1, unhide HW1⟩
 ·have hre2 : res = moreX (bytesOf b) s.at_ 11 4097 := by rw [hre]; rfl
  have hxr := moreX_xr b s h0 ht 11 4097 (by omega) (by omega)
  rw [← hre2] at hxr
  have HXR := hide hxr
  have hnl := numX_lt b s 11
  clear hxr hre hre2
  go_enter Tryz.func170, Tryz.ntmps170
  go_wp2_with fail
  refine (number_any x base 11 b s w (unhide HH) (by omega)).mono ?_
  rintro e w1 ⟨rfl, hx1, hw1⟩
  have HX1 := hide hx1
  have HW1 := hide hw1
  clear hx1 hw1
  go_wp2_with fail
  go_ret
  exact ⟨4097 + (numX b s 11).1, _, rfl, unhide HXR, unhide HX1, unhide HW1⟩
 ·have hre2 : res = moreX (bytesOf b) s.at_ 11 6145 := by rw [hre]; rfl
  have hxr := moreX_xr b s h0 ht 11 6145 (by omega) (by omega)
  rw [← hre2] at hxr
  have HXR := hide hxr
  have hnl := numX_lt b s 11
  clear hxr hre hre2
  go_enter Tryz.func170, Tryz.ntmps170
  go_wp2_with fail
  refine (number_any x base 11 b s w (unhide HH) (by omega)).mono ?_
  rintro e w1 ⟨rfl, hx1, hw1⟩
  have HX1 := hide hx1
  have HW1 := hide hw1
  clear hx1 hw1
  go_wp2_with fail
  go_ret
  exact ⟨6145 + (numX b s 11).1, _, rfl, unhide HXR, unhide HX1, unhide HW1⟩
 ·have hre2 : res = moreX (bytesOf b) s.at_ 12 8193 := by rw [hre]; rfl
  have hxr := moreX_xr b s h0 ht 12 8193 (by omega) (by omega)
  rw [← hre2] at hxr
  have HXR := hide hxr
  have hnl := numX_lt b s 12
  clear hxr hre hre2
  go_enter Tryz.func170, Tryz.ntmps170
  go_wp2_with fail
  refine (number_any x base 12 b s w (unhide HH) (by omega)).mono ?_
  rintro e w1 ⟨rfl, hx1, hw1⟩
  have HX1 := hide hx1
  have HW1 := hide hw1
  clear hx1 hw1
  go_wp2_with fail
  go_ret
  exact ⟨8193 + (numX b s 12).1, _, rfl, unhide HXR, unhide HX1, unhide HW1⟩
 ·have hre2 : res = moreX (bytesOf b) s.at_ 12 12289 := by rw [hre]; rfl
  have hxr := moreX_xr b s h0 ht 12 12289 (by omega) (by omega)
  rw [← hre2] at hxr
  have HXR := hide hxr
  have hnl := numX_lt b s 12
  clear hxr hre hre2
  go_enter Tryz.func170, Tryz.ntmps170
  go_wp2_with fail
  refine (number_any x base 12 b s w (unhide HH) (by omega)).mono ?_
  rintro e w1 ⟨rfl, hx1, hw1⟩
  have HX1 := hide hx1
  have HW1 := hide hw1
  clear hx1 hw1
  go_wp2_with fail
  go_ret
  exact ⟨12289 + (numX b s 12).1, _, rfl, unhide HXR, unhide HX1, unhide HW1⟩
 ·have hre2 : res = moreX (bytesOf b) s.at_ 13 16385 := by rw [hre]; rfl
  have hxr := moreX_xr b s h0 ht 13 16385 (by omega) (by omega)
  rw [← hre2] at hxr
  have HXR := hide hxr
  have hnl := numX_lt b s 13
  clear hxr hre hre2
  go_enter Tryz.func170, Tryz.ntmps170
  go_wp2_with fail
  refine (number_any x base 13 b s w (unhide HH) (by omega)).mono ?_
  rintro e w1 ⟨rfl, hx1, hw1⟩
  have HX1 := hide hx1
  have HW1 := hide hw1
  clear hx1 hw1
  go_wp2_with fail
  go_ret
  exact ⟨16385 + (numX b s 13).1, _, rfl, unhide HXR, unhide HX1, unhide HW1⟩
 ·have hre2 : res = moreX (bytesOf b) s.at_ 13 24577 := by rw [hre]; rfl
  have hxr := moreX_xr b s h0 ht 13 24577 (by omega) (by omega)
  rw [← hre2] at hxr
  have HXR := hide hxr
  have hnl := numX_lt b s 13
  clear hxr hre hre2
  go_enter Tryz.func170, Tryz.ntmps170
  go_wp2_with fail
  refine (number_any x base 13 b s w (unhide HH) (by omega)).mono ?_
  rintro e w1 ⟨rfl, hx1, hw1⟩
  have HX1 := hide hx1
  have HW1 := hide hw1
  clear hx1 hw1
  go_wp2_with fail
  go_ret
  exact ⟨24577 + (numX b s 13).1, _, rfl, unhide HXR, unhide HX1, unhide HW1⟩
end Go.Proofs.YtbpahojchgpdnaaGreatDoor
