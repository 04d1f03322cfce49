/- Proved here: what readLength and readDistance do, whatever the bits are. -/
import Derived.Test.YtbpahojchgpdnaaGreatDoorGFeed
namespace Go.Proofs.YtbpahojchgpdnaaGreatDoor
open Go.RowKit Go.Bel Go.Maps

theorem rLength_bits (B : List Nat) (q c b l : Nat) (h1 : 265 ≤ c) (h2 : c ≤ 284) (hb : (c - 261) / 4 = b) (hl : (4 + (c - 265) % 4) * 2 ^ b + 3 = l) :
    rLength B q c = if q + b ≤ 8 * B.length then .ok (l + numAt B q b) (q + b) else .miss := by
  unfold rLength
  rw [if_neg (by omega), if_neg (by omega), if_neg (by omega), hb, hl]

set_option maxRecDepth 20000 in
set_option maxHeartbeats 4000000 in
theorem readLength_any (f g off cap z q c : Nat) (B : List Nat) (w : World)
    (hF : w.heap[f]? = some (.cells #[.slice (some ⟨g, off, none⟩) B.length cap, .int .i64 (q : Nat), .int .i64 (z : Nat)] 91 (0, 0))) (hS : Src w g off B) (hgf : g ≠ f) (hq : q ≤ 8 * B.length) (hc : 257 ≤ c) (hc2 : c < 100000) :
    Calls Tryz.prog 201 #[.pointer (some ⟨f, 0, none⟩), .int .i64 (c : Nat)] w fun e w' => RP (rLength B q c) nat (nat 0) f w e w' := by
  have HF := hide hF
  have HFIN := hide (Fed.refl hF)
  clear hF
  obtain ⟨res, hre⟩ : ∃ r, r = rLength B q c := ⟨_, rfl⟩
  rw [← hre]
  by_cases h1 : 285 < c
  · have hr : res = .no 9 := by rw [hre]; unfold rLength; rw [if_pos h1]
    have HR := hide hr
    clear hre hr
    go_enter Tryz.func201, Tryz.ntmps201
    go_wp2_with fail
    go_ret2
    rw [unhide HR]
    exact ⟨rfl, _, unhide HFIN⟩
  by_cases h2 : c < 265
  · have hr : res = .ok (c - 257 + 3) q := by rw [hre]; unfold rLength; rw [if_neg h1, if_neg (by omega), if_pos h2]
    have HR := hide hr
    clear hre hr
    have hne : ((c : Int) == 285) = false := beq_eq_false_iff_ne.2 (by omega)
    go_enter Tryz.func201, Tryz.ntmps201
    go_wp2_with fail
    go_ret2
    rw [unhide HR]
    refine ⟨?_, unhide HFIN⟩
    have e : (c : Int) - 257 + 3 = ((c - 257 + 3 : Nat) : Int) := by omega
    rw [e]
    rfl
  by_cases h3 : c = 285
  · subst h3
    have HR := hide (show res = .ok 258 q by rw [hre]; rfl)
    clear hre
    go_enter Tryz.func201, Tryz.ntmps201
    go_wp2_with fail
    go_ret2
    rw [unhide HR]
    exact ⟨rfl, unhide HFIN⟩
  have hcs : c = 265 ∨ c = 266 ∨ c = 267 ∨ c = 268 ∨ c = 269 ∨ c = 270 ∨ c = 271 ∨ c = 272 ∨ c = 273 ∨ c = 274 ∨ c = 275 ∨ c = 276 ∨ c = 277 ∨ c = 278 ∨ c = 279 ∨ c = 280 ∨ c = 281 ∨ c = 282 ∨ c = 283 ∨ c = 284 := by omega
  clear h1 h2 h3 hc hc2
  rcases hcs with rfl | rfl | rfl | rfl | rfl | rfl | rfl | rfl | rfl | rfl | rfl | rfl | rfl | rfl | rfl | rfl | rfl | rfl | rfl | rfl
  · rw [rLength_bits B q 265 1 11 (by omega) (by omega) rfl rfl] at hre
    by_cases hthere : q + 1 ≤ 8 * B.length
    · rw [if_pos hthere] at hre
      have HR := hide hre
      have hnl := numAt_lt B q 1
      clear hre
      go_enter Tryz.func201, Tryz.ntmps201
      go_wp2_with fail
      refine (feedNum_ok f g off cap z q 1 B w (unhide HF) hS hgf (by omega) hthere).mono ?_
      rintro e w1 ⟨rfl, hf1⟩
      go_wp2_with fail
      go_ret2
      rw [unhide HR]
      exact ⟨rfl, hf1⟩
    · rw [if_neg hthere] at hre
      have HR := hide hre
      clear hre
      go_enter Tryz.func201, Tryz.ntmps201
      go_wp2_with fail
      refine (feedNum_miss f g off cap z q 1 B w (unhide HF) hS hgf (by omega) hq (by omega)).mono ?_
      rintro e w1 ⟨rfl, hf1⟩
      go_wp2_with fail
      rw [unhide HR]
      exact ⟨rfl, rfl, _, hf1⟩
  · rw [rLength_bits B q 266 1 13 (by omega) (by omega) rfl rfl] at hre
    by_cases hthere : q + 1 ≤ 8 * B.length
    · rw [if_pos hthere] at hre
      have HR := hide hre
      have hnl := numAt_lt B q 1
      clear hre
      go_enter Tryz.func201, Tryz.ntmps201
      go_wp2_with fail
      refine (feedNum_ok f g off cap z q 1 B w (unhide HF) hS hgf (by omega) hthere).mono ?_
      rintro e w1 ⟨rfl, hf1⟩
      go_wp2_with fail
      go_ret2
      rw [unhide HR]
      exact ⟨rfl, hf1⟩
    · rw [if_neg hthere] at hre
      have HR := hide hre
      clear hre
      go_enter Tryz.func201, Tryz.ntmps201
      go_wp2_with fail
      refine (feedNum_miss f g off cap z q 1 B w (unhide HF) hS hgf (by omega) hq (by omega)).mono ?_
      rintro e w1 ⟨rfl, hf1⟩
      go_wp2_with fail
      rw [unhide HR]
      exact ⟨rfl, rfl, _, hf1⟩
  · rw [rLength_bits B q 267 1 15 (by omega) (by omega) rfl rfl] at hre
    by_cases hthere : q + 1 ≤ 8 * B.length
    · rw [if_pos hthere] at hre
      have HR := hide hre
      have hnl := numAt_lt B q 1
      clear hre
      go_enter Tryz.func201, Tryz.ntmps201
      go_wp2_with fail
      refine (feedNum_ok f g off cap z q 1 B w (unhide HF) hS hgf (by omega) hthere).mono ?_
      rintro e w1 ⟨rfl, hf1⟩
      go_wp2_with fail
      go_ret2
      rw [unhide HR]
      exact ⟨rfl, hf1⟩
    · rw [if_neg hthere] at hre
      have HR := hide hre
      clear hre
      go_enter Tryz.func201, Tryz.ntmps201
      go_wp2_with fail
      refine (feedNum_miss f g off cap z q 1 B w (unhide HF) hS hgf (by omega) hq (by omega)).mono ?_
      rintro e w1 ⟨rfl, hf1⟩
      go_wp2_with fail
      rw [unhide HR]
      exact ⟨rfl, rfl, _, hf1⟩
  · rw [rLength_bits B q 268 1 17 (by omega) (by omega) rfl rfl] at hre
    by_cases hthere : q + 1 ≤ 8 * B.length
    · rw [if_pos hthere] at hre
      have HR := hide hre
      have hnl := numAt_lt B q 1
      clear hre
      go_enter Tryz.func201, Tryz.ntmps201
      go_wp2_with fail
      refine (feedNum_ok f g off cap z q 1 B w (unhide HF) hS hgf (by omega) hthere).mono ?_
      rintro e w1 ⟨rfl, hf1⟩
      go_wp2_with fail
      go_ret2
      rw [unhide HR]
      exact ⟨rfl, hf1⟩
    · rw [if_neg hthere] at hre
      have HR := hide hre
      clear hre
      go_enter Tryz.func201, Tryz.ntmps201
      go_wp2_with fail
      refine (feedNum_miss f g off cap z q 1 B w (unhide HF) hS hgf (by omega) hq (by omega)).mono ?_
      rintro e w1 ⟨rfl, hf1⟩
      go_wp2_with fail
      rw [unhide HR]
      exact ⟨rfl, rfl, _, hf1⟩
  · rw [rLength_bits B q 269 2 19 (by omega) (by omega) rfl rfl] at hre
    by_cases hthere : q + 2 ≤ 8 * B.length
    · rw [if_pos hthere] at hre
      have HR := hide hre
      have hnl := numAt_lt B q 2
      clear hre
      go_enter Tryz.func201, Tryz.ntmps201
      go_wp2_with fail
      refine (feedNum_ok f g off cap z q 2 B w (unhide HF) hS hgf (by omega) hthere).mono ?_
      rintro e w1 ⟨rfl, hf1⟩
      go_wp2_with fail
      go_ret2
      rw [unhide HR]
      exact ⟨rfl, hf1⟩
    · rw [if_neg hthere] at hre
      have HR := hide hre
      clear hre
      go_enter Tryz.func201, Tryz.ntmps201
      go_wp2_with fail
      refine (feedNum_miss f g off cap z q 2 B w (unhide HF) hS hgf (by omega) hq (by omega)).mono ?_
      rintro e w1 ⟨rfl, hf1⟩
      go_wp2_with fail
      rw [unhide HR]
      exact ⟨rfl, rfl, _, hf1⟩
  · rw [rLength_bits B q 270 2 23 (by omega) (by omega) rfl rfl] at hre
    by_cases hthere : q + 2 ≤ 8 * B.length
    · rw [if_pos hthere] at hre
      have HR := hide hre
      have hnl := numAt_lt B q 2
      clear hre
      go_enter Tryz.func201, Tryz.ntmps201
      go_wp2_with fail
      refine (feedNum_ok f g off cap z q 2 B w (unhide HF) hS hgf (by omega) hthere).mono ?_
      rintro e w1 ⟨rfl, hf1⟩
      go_wp2_with fail
      go_ret2
      rw [unhide HR]
      exact ⟨rfl, hf1⟩
    · rw [if_neg hthere] at hre
      have HR := hide hre
      clear hre
      go_enter Tryz.func201, Tryz.ntmps201
      go_wp2_with fail
      refine (feedNum_miss f g off cap z q 2 B w (unhide HF) hS hgf (by omega) hq (by omega)).mono ?_
      rintro e w1 ⟨rfl, hf1⟩
      go_wp2_with fail
      rw [unhide HR]
      exact ⟨rfl, rfl, _, hf1⟩
  · rw [rLength_bits B q 271 2 27 (by omega) (by omega) rfl rfl] at hre
    by_cases hthere : q + 2 ≤ 8 * B.length
    · rw [if_pos hthere] at hre
      have HR := hide hre
      have hnl := numAt_lt B q 2
      clear hre
      go_enter Tryz.func201, Tryz.ntmps201
      go_wp2_with fail
      refine (feedNum_ok f g off cap z q 2 B w (unhide HF) hS hgf (by omega) hthere).mono ?_
      rintro e w1 ⟨rfl, hf1⟩
      go_wp2_with fail
      go_ret2
      rw [unhide HR]
      exact ⟨rfl, hf1⟩
    · rw [if_neg hthere] at hre
      have HR := hide hre
      clear hre
      go_enter Tryz.func201, Tryz.ntmps201
      go_wp2_with fail
      refine (feedNum_miss f g off cap z q 2 B w (unhide HF) hS hgf (by omega) hq (by omega)).mono ?_
      rintro e w1 ⟨rfl, hf1⟩
      go_wp2_with fail
      rw [unhide HR]
      exact ⟨rfl, rfl, _, hf1⟩
  · rw [rLength_bits B q 272 2 31 (by omega) (by omega) rfl rfl] at hre
    by_cases hthere : q + 2 ≤ 8 * B.length
    · rw [if_pos hthere] at hre
      have HR := hide hre
      have hnl := numAt_lt B q 2
      clear hre
      go_enter Tryz.func201, Tryz.ntmps201
      go_wp2_with fail
      refine (feedNum_ok f g off cap z q 2 B w (unhide HF) hS hgf (by omega) hthere).mono ?_
      rintro e w1 ⟨rfl, hf1⟩
      go_wp2_with fail
      go_ret2
      rw [unhide HR]
      exact ⟨rfl, hf1⟩
    · rw [if_neg hthere] at hre
      have HR := hide hre
      clear hre
      go_enter Tryz.func201, Tryz.ntmps201
      go_wp2_with fail
      refine (feedNum_miss f g off cap z q 2 B w (unhide HF) hS hgf (by omega) hq (by omega)).mono ?_
      rintro e w1 ⟨rfl, hf1⟩
      go_wp2_with fail
      rw [unhide HR]
      exact ⟨rfl, rfl, _, hf1⟩
  · rw [rLength_bits B q 273 3 35 (by omega) (by omega) rfl rfl] at hre
    by_cases hthere : q + 3 ≤ 8 * B.length
    · rw [if_pos hthere] at hre
      have HR := hide hre
      have hnl := numAt_lt B q 3
      clear hre
      go_enter Tryz.func201, Tryz.ntmps201
      go_wp2_with fail
      refine (feedNum_ok f g off cap z q 3 B w (unhide HF) hS hgf (by omega) hthere).mono ?_
      rintro e w1 ⟨rfl, hf1⟩
      go_wp2_with fail
      go_ret2
      rw [unhide HR]
      exact ⟨rfl, hf1⟩
    · rw [if_neg hthere] at hre
      have HR := hide hre
      clear hre
      go_enter Tryz.func201, Tryz.ntmps201
      go_wp2_with fail
      refine (feedNum_miss f g off cap z q 3 B w (unhide HF) hS hgf (by omega) hq (by omega)).mono ?_
      rintro e w1 ⟨rfl, hf1⟩
      go_wp2_with fail
      rw [unhide HR]
      exact ⟨rfl, rfl, _, hf1⟩
  · rw [rLength_bits B q 274 3 43 (by omega) (by omega) rfl rfl] at hre
    by_cases hthere : q + 3 ≤ 8 * B.length
    · rw [if_pos hthere] at hre
      have HR := hide hre
      have hnl := numAt_lt B q 3
      clear hre
      go_enter Tryz.func201, Tryz.ntmps201
      go_wp2_with fail
      refine (feedNum_ok f g off cap z q 3 B w (unhide HF) hS hgf (by omega) hthere).mono ?_
      rintro e w1 ⟨rfl, hf1⟩
      go_wp2_with fail
      go_ret2
      rw [unhide HR]
      exact ⟨rfl, hf1⟩
    · rw [if_neg hthere] at hre
      have HR := hide hre
      clear hre
      go_enter Tryz.func201, Tryz.ntmps201
      go_wp2_with fail
      refine (feedNum_miss f g off cap z q 3 B w (unhide HF) hS hgf (by omega) hq (by omega)).mono ?_
      rintro e w1 ⟨rfl, hf1⟩
      go_wp2_with fail
      rw [unhide HR]
      exact ⟨rfl, rfl, _, hf1⟩
  · rw [rLength_bits B q 275 3 51 (by omega) (by omega) rfl rfl] at hre
    by_cases hthere : q + 3 ≤ 8 * B.length
    · rw [if_pos hthere] at hre
      have HR := hide hre
      have hnl := numAt_lt B q 3
      clear hre
      go_enter Tryz.func201, Tryz.ntmps201
      go_wp2_with fail
      refine (feedNum_ok f g off cap z q 3 B w (unhide HF) hS hgf (by omega) hthere).mono ?_
      rintro e w1 ⟨rfl, hf1⟩
      go_wp2_with fail
      go_ret2
      rw [unhide HR]
      exact ⟨rfl, hf1⟩
    · rw [if_neg hthere] at hre
      have HR := hide hre
      clear hre
      go_enter Tryz.func201, Tryz.ntmps201
      go_wp2_with fail
      refine (feedNum_miss f g off cap z q 3 B w (unhide HF) hS hgf (by omega) hq (by omega)).mono ?_
      rintro e w1 ⟨rfl, hf1⟩
      go_wp2_with fail
      rw [unhide HR]
      exact ⟨rfl, rfl, _, hf1⟩
  · rw [rLength_bits B q 276 3 59 (by omega) (by omega) rfl rfl] at hre
    by_cases hthere : q + 3 ≤ 8 * B.length
    · rw [if_pos hthere] at hre
      have HR := hide hre
      have hnl := numAt_lt B q 3
      clear hre
      go_enter Tryz.func201, Tryz.ntmps201
      go_wp2_with fail
      refine (feedNum_ok f g off cap z q 3 B w (unhide HF) hS hgf (by omega) hthere).mono ?_
      rintro e w1 ⟨rfl, hf1⟩
      go_wp2_with fail
      go_ret2
      rw [unhide HR]
      exact ⟨rfl, hf1⟩
    · rw [if_neg hthere] at hre
      have HR := hide hre
      clear hre
      go_enter Tryz.func201, Tryz.ntmps201
      go_wp2_with fail
      refine (feedNum_miss f g off cap z q 3 B w (unhide HF) hS hgf (by omega) hq (by omega)).mono ?_
      rintro e w1 ⟨rfl, hf1⟩
      go_wp2_with fail
      rw [unhide HR]
      exact ⟨rfl, rfl, _, hf1⟩
  · rw [rLength_bits B q 277 4 67 (by omega) (by omega) rfl rfl] at hre
    by_cases hthere : q + 4 ≤ 8 * B.length
    · rw [if_pos hthere] at hre
      have HR := hide hre
      have hnl := numAt_lt B q 4
      clear hre
      go_enter Tryz.func201, Tryz.ntmps201
      go_wp2_with fail
      refine (feedNum_ok f g off cap z q 4 B w (unhide HF) hS hgf (by omega) hthere).mono ?_
      rintro e w1 ⟨rfl, hf1⟩
      go_wp2_with fail
      go_ret2
      rw [unhide HR]
      exact ⟨rfl, hf1⟩
    · rw [if_neg hthere] at hre
      have HR := hide hre
      clear hre
      go_enter Tryz.func201, Tryz.ntmps201
      go_wp2_with fail
      refine (feedNum_miss f g off cap z q 4 B w (unhide HF) hS hgf (by omega) hq (by omega)).mono ?_
      rintro e w1 ⟨rfl, hf1⟩
      go_wp2_with fail
      rw [unhide HR]
      exact ⟨rfl, rfl, _, hf1⟩
  · rw [rLength_bits B q 278 4 83 (by omega) (by omega) rfl rfl] at hre
    by_cases hthere : q + 4 ≤ 8 * B.length
    · rw [if_pos hthere] at hre
      have HR := hide hre
      have hnl := numAt_lt B q 4
      clear hre
      go_enter Tryz.func201, Tryz.ntmps201
      go_wp2_with fail
      refine (feedNum_ok f g off cap z q 4 B w (unhide HF) hS hgf (by omega) hthere).mono ?_
      rintro e w1 ⟨rfl, hf1⟩
      go_wp2_with fail
      go_ret2
      rw [unhide HR]
      exact ⟨rfl, hf1⟩
    · rw [if_neg hthere] at hre
      have HR := hide hre
      clear hre
      go_enter Tryz.func201, Tryz.ntmps201
      go_wp2_with fail
      refine (feedNum_miss f g off cap z q 4 B w (unhide HF) hS hgf (by omega) hq (by omega)).mono ?_
      rintro e w1 ⟨rfl, hf1⟩
      go_wp2_with fail
      rw [unhide HR]
      exact ⟨rfl, rfl, _, hf1⟩
  · rw [rLength_bits B q 279 4 99 (by omega) (by omega) rfl rfl] at hre
    by_cases hthere : q + 4 ≤ 8 * B.length
    · rw [if_pos hthere] at hre
      have HR := hide hre
      have hnl := numAt_lt B q 4
      clear hre
      go_enter Tryz.func201, Tryz.ntmps201
      go_wp2_with fail
      refine (feedNum_ok f g off cap z q 4 B w (unhide HF) hS hgf (by omega) hthere).mono ?_
      rintro e w1 ⟨rfl, hf1⟩
      go_wp2_with fail
      go_ret2
      rw [unhide HR]
      exact ⟨rfl, hf1⟩
    · rw [if_neg hthere] at hre
      have HR := hide hre
      clear hre
      go_enter Tryz.func201, Tryz.ntmps201
      go_wp2_with fail
      refine (feedNum_miss f g off cap z q 4 B w (unhide HF) hS hgf (by omega) hq (by omega)).mono ?_
      rintro e w1 ⟨rfl, hf1⟩
      go_wp2_with fail
      rw [unhide HR]
      exact ⟨rfl, rfl, _, hf1⟩
  · rw [rLength_bits B q 280 4 115 (by omega) (by omega) rfl rfl] at hre
    by_cases hthere : q + 4 ≤ 8 * B.length
    · rw [if_pos hthere] at hre
      have HR := hide hre
      have hnl := numAt_lt B q 4
      clear hre
      go_enter Tryz.func201, Tryz.ntmps201
      go_wp2_with fail
      refine (feedNum_ok f g off cap z q 4 B w (unhide HF) hS hgf (by omega) hthere).mono ?_
      rintro e w1 ⟨rfl, hf1⟩
      go_wp2_with fail
      go_ret2
      rw [unhide HR]
      exact ⟨rfl, hf1⟩
    · rw [if_neg hthere] at hre
      have HR := hide hre
      clear hre
      go_enter Tryz.func201, Tryz.ntmps201
      go_wp2_with fail
      refine (feedNum_miss f g off cap z q 4 B w (unhide HF) hS hgf (by omega) hq (by omega)).mono ?_
      rintro e w1 ⟨rfl, hf1⟩
      go_wp2_with fail
      rw [unhide HR]
      exact ⟨rfl, rfl, _, hf1⟩
  · rw [rLength_bits B q 281 5 131 (by omega) (by omega) rfl rfl] at hre
    by_cases hthere : q + 5 ≤ 8 * B.length
    · rw [if_pos hthere] at hre
      have HR := hide hre
      have hnl := numAt_lt B q 5
      clear hre
      go_enter Tryz.func201, Tryz.ntmps201
      go_wp2_with fail
      refine (feedNum_ok f g off cap z q 5 B w (unhide HF) hS hgf (by omega) hthere).mono ?_
      rintro e w1 ⟨rfl, hf1⟩
      go_wp2_with fail
      go_ret2
      rw [unhide HR]
      exact ⟨rfl, hf1⟩
    · rw [if_neg hthere] at hre
      have HR := hide hre
      clear hre
      go_enter Tryz.func201, Tryz.ntmps201
      go_wp2_with fail
      refine (feedNum_miss f g off cap z q 5 B w (unhide HF) hS hgf (by omega) hq (by omega)).mono ?_
      rintro e w1 ⟨rfl, hf1⟩
      go_wp2_with fail
      rw [unhide HR]
      exact ⟨rfl, rfl, _, hf1⟩
  · rw [rLength_bits B q 282 5 163 (by omega) (by omega) rfl rfl] at hre
    by_cases hthere : q + 5 ≤ 8 * B.length
    · rw [if_pos hthere] at hre
      have HR := hide hre
      have hnl := numAt_lt B q 5
      clear hre
      go_enter Tryz.func201, Tryz.ntmps201
      go_wp2_with fail
      refine (feedNum_ok f g off cap z q 5 B w (unhide HF) hS hgf (by omega) hthere).mono ?_
      rintro e w1 ⟨rfl, hf1⟩
      go_wp2_with fail
      go_ret2
      rw [unhide HR]
      exact ⟨rfl, hf1⟩
    · rw [if_neg hthere] at hre
      have HR := hide hre
      clear hre
      go_enter Tryz.func201, Tryz.ntmps201
      go_wp2_with fail
      refine (feedNum_miss f g off cap z q 5 B w (unhide HF) hS hgf (by omega) hq (by omega)).mono ?_
      rintro e w1 ⟨rfl, hf1⟩
      go_wp2_with fail
      rw [unhide HR]
      exact ⟨rfl, rfl, _, hf1⟩
  · rw [rLength_bits B q 283 5 195 (by omega) (by omega) rfl rfl] at hre
    by_cases hthere : q + 5 ≤ 8 * B.length
    · rw [if_pos hthere] at hre
      have HR := hide hre
      have hnl := numAt_lt B q 5
      clear hre
      go_enter Tryz.func201, Tryz.ntmps201
      go_wp2_with fail
      refine (feedNum_ok f g off cap z q 5 B w (unhide HF) hS hgf (by omega) hthere).mono ?_
      rintro e w1 ⟨rfl, hf1⟩
      go_wp2_with fail
      go_ret2
      rw [unhide HR]
      exact ⟨rfl, hf1⟩
    · rw [if_neg hthere] at hre
      have HR := hide hre
      clear hre
      go_enter Tryz.func201, Tryz.ntmps201
      go_wp2_with fail
      refine (feedNum_miss f g off cap z q 5 B w (unhide HF) hS hgf (by omega) hq (by omega)).mono ?_
      rintro e w1 ⟨rfl, hf1⟩
      go_wp2_with fail
      rw [unhide HR]
      exact ⟨rfl, rfl, _, hf1⟩
  · rw [rLength_bits B q 284 5 227 (by omega) (by omega) rfl rfl] at hre
    by_cases hthere : q + 5 ≤ 8 * B.length
    · rw [if_pos hthere] at hre
      have HR := hide hre
      have hnl := numAt_lt B q 5
      clear hre
      go_enter Tryz.func201, Tryz.ntmps201
      go_wp2_with fail
      refine (feedNum_ok f g off cap z q 5 B w (unhide HF) hS hgf (by omega) hthere).mono ?_
      rintro e w1 ⟨rfl, hf1⟩
      go_wp2_with fail
      go_ret2
      rw [unhide HR]
      exact ⟨rfl, hf1⟩
    · rw [if_neg hthere] at hre
      have HR := hide hre
      clear hre
      go_enter Tryz.func201, Tryz.ntmps201
      go_wp2_with fail
      refine (feedNum_miss f g off cap z q 5 B w (unhide HF) hS hgf (by omega) hq (by omega)).mono ?_
      rintro e w1 ⟨rfl, hf1⟩
      go_wp2_with fail
      rw [unhide HR]
      exact ⟨rfl, rfl, _, hf1⟩
end Go.Proofs.YtbpahojchgpdnaaGreatDoor
