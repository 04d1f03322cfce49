/- Proved here: what reads answers where the decoder's steps over the bytes, and over the bytes with three more behind them, are known. -/
import Derived.Laws.IdiomStrings
import Derived.Laws.BytesArg
import Derived.Deep.DeepCutAuto
import Derived.Test.YtbpahojchgpdnaaGreatDoorAgain
import Derived.Test.YtbpahojchgpdnaaGreatDoorGzipC
import Derived.Lib.SlBytesConst
set_option maxRecDepth 20000
set_option maxHeartbeats 4000000
namespace Go.Proofs.YtbpahojchgpdnaaGreatDoor
open Go.RowKit Go.Bel Go.Maps
theorem bytes_back (s : ByteArray) : (⟨s.data.toList.toArray⟩ : ByteArray) = s := by cases s; simp
theorem owned_string {w W : World} {base : Nat} {v : Value} {s : ByteArray} (h : w.ownsRow base 5 1 v (bytesOf s).length (u8s (bytesOf s))) (hW : ∀ k, v.ownBlock = some k → W.heap[k]? = w.heap[k]?) :
  (convert 31 9 v).run Tryz.prog W = .ok (.string s) W := by
 have h' := ownsRow_of_block h hW
 rw [bytesOf_length] at h'
 have h2 := h'
 obtain ⟨_, ⟨hv, hn⟩ | ⟨g, cap, cur, hv, _⟩⟩ := h'
 ·have hs : s = ByteArray.empty := by
   cases s with
   | mk d => have : d.size = 0 := hn; simp at this; subst this; rfl
  rw [hv, hs]
  exact run_convert_bytes_nil W 31 5 Tryz.underlying31 Tryz.underlying5 0 0 9 Tryz.underlying9
 ·subst hv
  have hl : s.data.toList.length = s.size := by simp
  have := run_convert_bytes_back W 31 9 5 ⟨g, 0, none⟩ cap s.data.toList Tryz.underlying31 Tryz.underlying5 Tryz.underlying9 (fun j hj => by
   have hc := h2.cellAt j (by omega)
   have e : (⟨g, 0, none⟩ : Addr).add j = ⟨g, j, none⟩ := by unfold Addr.add; split <;> simp_all
   rw [e, hc]
   have hb : j < (bytesOf s).length := by rw [bytesOf_length]; omega
   simp [u8s, bytesOf, List.getElem?_map, List.getElem?_eq_getElem hj])
  rw [hl, bytes_back] at this
  exact this
theorem asked_nat (n : Nat) (h : n ≤ 1048576) : asked (n : Int) = n := by unfold asked; rw [if_neg (by omega), if_neg (by omega)]; omega
theorem readsG_ok (g cap n1 n2 : Nat) (B : List Nat) (s : ByteArray) (q1 q2 : Nat) (w : World) (hS : Go.Bel.Src w g 0 B) (hgl : g < w.heap.size) (hO : OrderAt w) (h0 : 4 ≤ w.heap.size) (hs : s.size ≤ 1048576) (hB1 : 0 < B.length) (hB2 : B.length ≤ 10000000)
  (hr1 : GRun B n1 (gInit s.size) 0 (bytesOf s) q1) (hu1 : (q1 + 7) / 8 = B.length) (hr2 : GRun (B ++ [255, 0, 7]) n2 (gInit (asked ((s.size + 9 : Nat) : Int))) 0 (bytesOf s) q2) (hu2 : (q2 + 7) / 8 = B.length) :
  Calls Tryz.prog 24 #[.slice (some ⟨g, 0, none⟩) B.length cap, .string s] w fun r w' => r = .returned (.bool true) ∧ Step (fun _ => False) w w' := by
 obtain ⟨i0, hi, hz0, hz1, hz2⟩ := info_parts Tryz.info5
 have hu1' : usedG 0 0 q1 = B.length := by unfold usedG; rw [if_pos rfl, Nat.zero_add]; exact hu1
 have hu2' : usedG 0 0 q2 = B.length := by unfold usedG; rw [if_pos rfl, Nat.zero_add]; exact hu2
 have HR1 := hide hr1
 have HR2 := hide hr2
 have HU1 := hide hu1'
 have HU2 := hide hu2'
 clear hr1 hr2 hu1 hu2 hu1' hu2'
 go_enter Tryz.func24, Tryz.ntmps24
 go_wp2_with fail
 refine (unpackG g 0 cap n1 0 (s.size : Int) B (bytesOf s) q1 w hS hgl hO h0 (by rw [asked_nat _ (by omega)]; exact unhide HR1)).mono ?_
 rintro r w1 ⟨v1, rfl, hown1, hs1⟩
 rw [unhide HU1]
 obtain ⟨va, vl, vc, hv⟩ : ∃ a n c, v1 = .slice a n c := by
  obtain ⟨_, ⟨hv, _⟩ | ⟨_, _, _, hv, _⟩⟩ := hown1
  ·exact ⟨_, _, _, hv⟩
  ·exact ⟨_, _, _, hv⟩
 subst hv
 have HOWN1 := hide hown1
 have hz1' := hs1.size
 have hv1lt : ∀ k, (Value.slice va vl vc).ownBlock = some k → k < w1.heap.size := fun k hk => (hown1.lt k hk).2
 have HV1 := hide hv1lt
 have HS1 := hide hs1
 clear hown1 hs1 hv1lt
 go_upto_region 3 with fail
 obtain ⟨T5, hT5⟩ : ∃ T, T = w1.heap.size := ⟨_, rfl⟩
 obtain ⟨w2, hw2⟩ : ∃ w2, w2 = w1.alloc (.cells #[.int .i64 0, .slice va vl vc, .int .i64 (B.length : Nat), .string ⟨#[]⟩] 45) := ⟨_, rfl⟩
 have hst2 : Step (fun _ => False) w1 w2 := by rw [hw2]; exact (Step.refl _ _).alloc _
 have hb2 : w2.heap[T5]? = some (.cells #[.int .i64 0, .slice va vl vc, .int .i64 (B.length : Nat), .string ⟨#[]⟩] 45 (0, 0)) := by rw [hw2, hT5]; exact heap_alloc_new _ _
 have hz2' : w2.heap.size = T5 + 1 := by rw [hw2, hT5]; simp
 have hst02 := (unhide HS1).trans hst2
 have hS2 := hS.step hst02 (fun x => x)
 rw [← hw2, ← hT5]
 have hT5w : w.heap.size ≤ T5 := by omega
 have HV1' : ∀ k, (Value.slice va vl vc).ownBlock = some k → k < T5 := by rw [hT5]; exact unhide HV1
 have HVV := hide HV1'
 have hO2 := hO.step hst02 (fun _ _ x => x)
 have HST02 := hide hst02
 have HS2 := hide hS2
 have HO2' := hide hO2
 have HB2 := hide hb2
 have HOWN1w := hide (ownsRow_of_block (unhide HOWN1) (fun k hk => hst2.block k ((unhide HV1) k hk) (fun x => x)))
 have hgl2 : g < w2.heap.size := by have := (unhide HST02).size; omega
 have hz2a : w2.heap.size ≤ T5 + 1 := by omega
 have hz2b : T5 + 1 ≤ w2.heap.size := by omega
 clear hz2' hw2 hT5 hst2 hst02 hS2 hO2 hb2 hS hO HV1' HV1 HOWN1 HS1
 go_wp2_with (first
  | (at_builtin; refine wpList_append_row _ rfl (.tmp 12) (.tmp 13) 31 rfl w2.heap.size 5 i0 (.int .u8 0) 1 1 Tryz.underlying31 hi hz0 hz1 hz2 rfl (by decide) _ 0 [] rfl (World.ownsRow_nil _ _ _ _) ⟨g, 0, none⟩ B.length cap (u8s B) rfl ?a1 ?a2 ?a3 hB1 ?a4 ?a5 (Nat.le_refl _) ?_))
 case a1 => simp [u8s]
 case a2 =>
  intro j u hj
  have hjl : j < B.length := by have := (List.getElem?_eq_some_iff.1 hj).1; simpa [u8s] using this
  have e : (⟨g, 0, none⟩ : Addr).add j = ⟨g, 0 + j, none⟩ := by unfold Addr.add; split <;> simp_all
  rw [u8s_get B j hjl] at hj
  simp only [Option.some.injEq] at hj
  rw [e, (unhide HS2).cell j hjl, hj]
 case a3 => intro u hu; simp [u8s] at hu; obtain ⟨x, _, rfl⟩ := hu; rfl
 case a4 => unfold maxLen; omega
 case a5 => omega
 intro g3 cap3 w3 hown3 hgr3 hg3
 have hg3' : w2.heap.size ≤ g3 := hg3.elim (fun h => by simp [Value.ownBlock] at h) (fun h => by omega)
 try simp only [Nat.zero_add, List.nil_append] at hown3
 try rw [Nat.zero_add]
 have HOWN3 := hide hown3
 have HGR3 := hide hgr3
 clear hown3 hgr3 hg3
 go_wp2_with (first
  | (at_builtin; refine wpList_append_row _ rfl (.tmp 15) (.tmp 16) 31 rfl w2.heap.size 5 i0 (.int .u8 0) 1 1 Tryz.underlying31 hi hz0 hz1 hz2 rfl (by decide) _ B.length (u8s B) rfl ((unhide HOWN3).alloc _) ⟨w3.heap.size, 0, none⟩ 3 3 [.int .u8 255, .int .u8 0, .int .u8 7] rfl rfl ?b2 ?b3 (by decide) ?b4 ?b5 ?b6 ?_))
 case b2 =>
  intro j u hj
  have e : (⟨w3.heap.size, 0, none⟩ : Addr).add j = ⟨w3.heap.size, j, none⟩ := by unfold Addr.add; split <;> simp_all
  rw [e, cell_of_row _ _ j _ _ _ (heap_alloc_new _ _)]
  simpa using hj
 case b3 => intro u hu; simp at hu; rcases hu with rfl | rfl | rfl <;> rfl
 case b4 => unfold maxLen; omega
 case b5 => omega
 case b6 => have := (unhide HGR3).size; simp; omega
 intro g4 cap4 w4 hown4 hgr4 hg4
 have hst24 : Step (fun _ => False) w2 w4 := by
  have h1 := (Step.refl (fun _ => False) w2).grown (unhide HGR3) (fun k hk => by simp [Value.ownBlock] at hk)
  exact (h1.alloc _).grown hgr4 (fun k hk => by simp [Value.ownBlock] at hk; exact .inr (by omega))
 have hS4 : Go.Bel.Src w4 g4 0 (B ++ [255, 0, 7]) := by
  refine ⟨fun i hi' => ?_, fun i => ?_, by simp; omega⟩
  ·have hc := hown4.cellAt i (by simp at hi' ⊢; omega)
   rw [Nat.zero_add, hc]
   have e : u8s B ++ [.int .u8 255, .int .u8 0, .int .u8 7] = u8s (B ++ [255, 0, 7]) := by simp [u8s]
   rw [e]
   exact u8s_get _ i hi'
  ·by_cases hi' : i < B.length
   ·rw [List.getElem?_append_left hi']; exact (unhide HS2).byte i
   ·rw [List.getElem?_append_right (by omega)]
    have : i - B.length = 0 ∨ i - B.length = 1 ∨ i - B.length = 2 ∨ 3 ≤ i - B.length := by omega
    rcases this with h | h | h | h
    ·rw [h]; decide
    ·rw [h]; decide
    ·rw [h]; decide
    ·rw [List.getElem?_eq_none (by simpa using h)]; decide
 have hg4l : g4 < w4.heap.size := (hown4.lt g4 rfl).2
 have HS4 := hide hS4
 have HST24 := hide hst24
 have hz24 := hst24.size
 clear hown4 hgr4 hg4 hS4 hst24 HGR3 HOWN3 hg3'
 go_wp2_with fail
 rw [show ((s.size : Int) + 9) = ((s.size + 9 : Nat) : Int) by omega]
 have hun := unpackG g4 0 cap4 n2 0 ((s.size + 9 : Nat) : Int) (B ++ [255, 0, 7]) (bytesOf s) q2 w4 (unhide HS4) hg4l ((unhide HO2').step (unhide HST24) (fun _ _ x => x)) (by omega) (unhide HR2)
 have e3 : (B ++ [255, 0, 7] : List Nat).length = B.length + 3 := by simp
 rw [e3] at hun
 refine hun.mono ?_
 clear hun e3
 rintro r w5 ⟨v5, rfl, hown5, hs5⟩
 rw [unhide HU2]
 obtain ⟨xa, xl, xc, hv⟩ : ∃ a n c, v5 = .slice a n c := by
  obtain ⟨_, ⟨hv, _⟩ | ⟨_, _, _, hv, _⟩⟩ := hown5
  ·exact ⟨_, _, _, hv⟩
  ·exact ⟨_, _, _, hv⟩
 subst hv
 have hst25 := (unhide HST24).trans hs5
 have hst05 := (unhide HST02).trans hst25
 have hT5l := lt_of_block (unhide HB2)
 have hb5 := hst25.at_ (unhide HB2) (fun x => x)
 have hlt5 := lt_of_block hb5
 have cv1 : ∀ W : World, (∀ k, k < w2.heap.size → W.heap[k]? = w2.heap[k]?) → (convert 31 9 (.slice va vl vc)).run Tryz.prog W = .ok (.string s) W := fun W hW => owned_string (unhide HOWN1w) (fun k hk => hW k (by have := (unhide HVV) k hk; omega))
 have cv2 : ∀ W : World, (∀ k, k < w5.heap.size → W.heap[k]? = w5.heap[k]?) → (convert 31 9 (.slice xa xl xc)).run Tryz.prog W = .ok (.string s) W := fun W hW => owned_string hown5 (fun k hk => hW k (hown5.lt k hk).2)
 have HCV1 := hide cv1
 have HCV2 := hide cv2
 have HB5 := hide hb5
 have HST05 := hide hst05
 have HST25 := hide hst25
 clear cv1 cv2 hb5 hst05 hst25 hown5 hs5 HOWN1w HVV HB2 HS2 HS4 HO2' HST24 HST02
 go_upto_region 6 with fail
 obtain ⟨T7, hT7⟩ : ∃ T, T = w5.heap.size := ⟨_, rfl⟩
 obtain ⟨w6, hw6⟩ : ∃ w6, w6 = w5.alloc (.cells #[.int .i64 0, .slice xa xl xc, .int .i64 (B.length : Nat), .string ⟨#[]⟩] 45) := ⟨_, rfl⟩
 have hst56 : Step (fun _ => False) w5 w6 := by rw [hw6]; exact (Step.refl _ _).alloc _
 have hb7 : w6.heap[T7]? = some (.cells #[.int .i64 0, .slice xa xl xc, .int .i64 (B.length : Nat), .string ⟨#[]⟩] 45 (0, 0)) := by rw [hw6, hT7]; exact heap_alloc_new _ _
 have hb6 := hst56.at_ (unhide HB5) (fun x => x)
 have cv1 := (unhide HCV1) w6 (fun k hk => ((unhide HST25).trans hst56).block k hk (fun x => x))
 have cv2 := (unhide HCV2) w6 (fun k hk => hst56.block k hk (fun x => x))
 have hfin := (unhide HST05).trans hst56
 rw [← hw6, ← hT7]
 have HFIN := hide hfin
 have a0 : w6.cell? ⟨T5, 0, none⟩ = some (.int .i64 0) := blk_cell hb6 0 _ rfl
 have a1 : w6.cell? ⟨T5, 1, none⟩ = some (.slice va vl vc) := blk_cell hb6 1 _ rfl
 have a2 : w6.cell? ⟨T5, 2, none⟩ = some (.int .i64 (B.length : Nat)) := blk_cell hb6 2 _ rfl
 have a3 : w6.cell? ⟨T5, 3, none⟩ = some (.string ⟨#[]⟩) := blk_cell hb6 3 _ rfl
 have b0 : w6.cell? ⟨T7, 0, none⟩ = some (.int .i64 0) := blk_cell hb7 0 _ rfl
 have b1 : w6.cell? ⟨T7, 1, none⟩ = some (.slice xa xl xc) := blk_cell hb7 1 _ rfl
 have b2 : w6.cell? ⟨T7, 2, none⟩ = some (.int .i64 (B.length : Nat)) := blk_cell hb7 2 _ rfl
 clear hT7 hw6 hst56 hb7 hb6 hfin HCV1 HCV2 HB5 HST05 HST25
 go_wp2
 go_ret
 exact ⟨rfl, unhide HFIN⟩
end Go.Proofs.YtbpahojchgpdnaaGreatDoor
namespace Go.Proofs.YtbpahojchgpdnaaGreatDoor
open Go.RowKit Go.Bel Go.Maps
theorem src_own {w : World} {base : Nat} {v : Value} {B : List Nat} (h : w.ownsRow base 5 1 v B.length (u8s B)) (hB : AllB B) (h0 : 0 < B.length) (hl : B.length ≤ 140737488351232) : ∃ g c, v = .slice (some ⟨g, 0, none⟩) B.length c ∧ Go.Bel.Src w g 0 B ∧ g < w.heap.size ∧ base ≤ g := by
 have h9 := h
 rcases h.2 with ⟨_, h1⟩ | ⟨g, cap, _, hv, hg, _⟩
 ·omega
 ·refine ⟨g, cap, hv, ?_, (h.lt g (by rw [hv]; rfl)).2, hg⟩
  rw [hv] at h9
  refine ⟨fun i hi => ?_, all_get hB, hl⟩
  rw [Nat.zero_add, h9.cellAt i (by omega), u8s_get _ _ hi]
theorem around_len (kind : Nat) (P ys : List Nat) : P.length ≤ (aroundK kind P ys).length ∧ (aroundK kind P ys).length ≤ P.length + 18 := by
 unfold aroundK
 split
 ·simp [aroundZ, be4]; omega
 ·split
  ·simp [aroundG, le4]; omega
  ·omega
theorem unpackK_src (kind g cap : Nat) (hk : kind ≤ 2) (P ys X : List Nat) (most : Nat) (w : World) (hS : Go.Bel.Src w g 0 (aroundK kind P ys ++ X)) (hg : g < w.heap.size) (hR : ReadsAs P ys) (hB : AllB (aroundK kind P ys ++ X)) (hl : (aroundK kind P ys ++ X).length ≤ 8388608) (hO : OrderAt w) (h4 : 4 ≤ w.heap.size) (hy : ys.length ≤ 1048576) (hm : most ≤ 1048576) :
  Calls Tryz.prog 25 #[.int .i64 (kind : Nat), .slice (some ⟨g, 0, none⟩) (aroundK kind P ys ++ X).length cap, .int .i64 (most : Nat)] w
   fun r w' => ∃ v', r = .returned (.agg #[.int .i64 ((if ys.length ≤ most then 0 else 11 : Nat) : Int), v', .int .i64 ((if ys.length ≤ most then (aroundK kind P ys).length else 0 : Nat) : Int), .string ⟨#[]⟩]) ∧ w'.ownsRow w.heap.size 5 1 v' (ys.take most).length (u8s (ys.take most)) ∧ Step (fun _ => False) w w' := by
 have ha := asked_nat most hm
 by_cases h : ys.length ≤ most
 ·rw [if_pos h, if_pos h, List.take_of_length_le h]
  by_cases k1 : kind = 1
  ·subst k1
   have hz : zAll (aroundZ P ys ++ X) (asked (most : Int)) 0 ys (aroundZ P ys).length := by rw [ha]; exact (z_around (X := X) hR hB).1 h
   exact unpackZ g 0 cap 0 (most : Int) (aroundZ P ys ++ X) ys (aroundZ P ys).length w hS hg hO h4 hz
  ·by_cases k2 : kind = 2
   ·subst k2
    have hz : gzAll (aroundG P ys ++ X) (asked (most : Int)) 0 ys (aroundG P ys).length [] := by rw [ha]; exact (gz_around (X := X) hR hB (by omega)).1 h
    exact unpackGz g 0 cap 0 (most : Int) (aroundG P ys ++ X) ys (aroundG P ys).length [] w hS hg hO h4 hB hl hz
   ·obtain rfl : kind = 0 := by omega
    have e : aroundK 0 P ys = P := rfl
    rw [e] at hS hB hl ⊢
    obtain ⟨n, hr⟩ := (hR [] X (by simpa using all_get hB) most).1 h
    have hr' : GRun (P ++ X) n (gInit (asked (most : Int))) 0 ys (8 * P.length) := by rw [ha]; simpa [gAt, gInit] using hr
    have := unpackG g 0 cap n 0 (most : Int) (P ++ X) ys (8 * P.length) w hS hg hO h4 hr'
    rw [show usedG 0 0 (8 * P.length) = P.length by unfold usedG; rw [if_pos rfl]; omega] at this
    exact this
 ·rw [if_neg h, if_neg h]
  have h' : most < ys.length := by omega
  by_cases k1 : kind = 1
  ·subst k1
   have hz : zAll (aroundZ P ys ++ X) (asked (most : Int)) 11 (ys.take most) 0 := by rw [ha]; exact (z_around (X := X) hR hB).2 h'
   exact unpackZ g 0 cap 11 (most : Int) (aroundZ P ys ++ X) (ys.take most) 0 w hS hg hO h4 hz
  ·by_cases k2 : kind = 2
   ·subst k2
    have hz : gzAll (aroundG P ys ++ X) (asked (most : Int)) 11 (ys.take most) 0 [] := by rw [ha]; exact (gz_around (X := X) hR hB (by omega)).2 h'
    exact unpackGz g 0 cap 11 (most : Int) (aroundG P ys ++ X) (ys.take most) 0 [] w hS hg hO h4 hB hl hz
   ·obtain rfl : kind = 0 := by omega
    have e : aroundK 0 P ys = P := rfl
    rw [e] at hS hB hl ⊢
    obtain ⟨n, hr⟩ := (hR [] X (by simpa using all_get hB) most).2 h'
    have hr' : GRun (P ++ X) n (gInit (asked (most : Int))) 11 (ys.take most) 0 := by rw [ha]; simpa [gAt, gInit] using hr
    exact unpackG g 0 cap n 11 (most : Int) (P ++ X) (ys.take most) 0 w hS hg hO h4 hr'
theorem unpackK_own (kind : Nat) (hk : kind ≤ 2) (base : Nat) (v : Value) (P ys : List Nat) (most : Nat) (w : World) (hrow : w.ownsRow base 5 1 v (aroundK kind P ys).length (u8s (aroundK kind P ys))) (hR : ReadsAs P ys) (hP : ∀ y ∈ P, y < 256) (hP0 : 0 < P.length) (hPl : P.length ≤ 8388000) (hO : OrderAt w) (h4 : 4 ≤ w.heap.size) (hy : ys.length ≤ 1048576) (hm : most ≤ 1048576) :
  Calls Tryz.prog 25 #[.int .i64 (kind : Nat), v, .int .i64 (most : Nat)] w
   fun r w' => ∃ v', r = .returned (.agg #[.int .i64 ((if ys.length ≤ most then 0 else 11 : Nat) : Int), v', .int .i64 ((if ys.length ≤ most then (aroundK kind P ys).length else 0 : Nat) : Int), .string ⟨#[]⟩]) ∧ w'.ownsRow w.heap.size 5 1 v' (ys.take most).length (u8s (ys.take most)) ∧ Step (fun _ => False) w w' := by
 have hl := around_len kind P ys
 have hB : AllB (aroundK kind P ys) := around_byte kind P ys hP
 obtain ⟨g, c, rfl, hS, hg, _⟩ := src_own hrow hB (by omega) (by omega)
 have := unpackK_src kind g c hk P ys [] most w (by rw [List.append_nil]; exact hS) hg hR (by rw [List.append_nil]; exact hB) (by rw [List.append_nil]; omega) hO h4 hy hm
 rw [List.append_nil] at this
 exact this
end Go.Proofs.YtbpahojchgpdnaaGreatDoor
namespace Go.Proofs.YtbpahojchgpdnaaGreatDoor
open Go.RowKit Go.Bel Go.Maps
theorem first_bits : BitsIn (litBits [97] true) [75, 4, 0] := by
 refine ⟨fun i => ?_, fun p => ?_⟩
 ·rcases i with _ | _ | _ | i <;> simp
 ·by_cases hp : p < 24
  ·have : ∀ p, p < 24 → bitAt [75, 4, 0] p = ((litBits [97] true)[p]?.getD false).toNat := by decide +kernel
   exact this p hp
  ·have hl : (litBits [97] true).length = 18 := by decide +kernel
   unfold bitAt
   rw [List.getElem?_eq_none (by simp; omega), List.getElem?_eq_none (by omega)]
   simp
theorem lit_reads {l : List Nat} {P : List Nat} (hc : ∀ c ∈ l, c < 256) (hB : BitsIn (litBits l true) P) (hl : P.length = ((litBits l true).length + 7) / 8) : ReadsAs P l := by
 intro H X hX most
 have hbits := bits_mid hB (by omega) H X
 have hall := allBits_in _ hX
 have hal : (allBits (H ++ (P ++ X))).length ≤ 8 * (H ++ (P ++ X)).length := by rw [allBits_length]; omega
 have hk := lit_blk hall hal (8 * H.length) l true hc hbits
 refine ⟨fun hm => ?_, fun hm => ?_⟩
 ·obtain ⟨s1, a1, a2, a3, a4, a5⟩ := hk.fits { init most with p := 8 * H.length } rfl rfl (by simpa [init] using hm)
  obtain ⟨n, hr⟩ := a5 _ _ ⟨0, .done s1 a1⟩
  obtain ⟨q, hg, hq⟩ := hr.grun _ (link_at most (8 * H.length))
  have a4' : s1.p = (8 * H.length + (litBits l true).length + 7) / 8 * 8 := a4
  rw [hq rfl, a4', a2, show (8 * H.length + (litBits l true).length + 7) / 8 * 8 = 8 * (H.length + P.length) by omega] at hg
  exact ⟨n, by simpa [init] using hg⟩
 ·obtain ⟨s', ⟨n, hr⟩, h1⟩ := hk.much { init most with p := 8 * H.length } rfl rfl (by simp [init]) (by simpa [init] using hm)
  obtain ⟨q, hg, _⟩ := hr.grun _ (link_at most (8 * H.length))
  rw [h1, grun_no hg (by omega)] at hg
  exact ⟨n, by simpa [init] using hg⟩
theorem reads_at0 {P ys X : List Nat} (h : ReadsAs P ys) (hX : ∀ i : Nat, (P ++ X)[i]?.getD 0 < 256) {most : Nat} (hm : ys.length ≤ most) : ∃ n, GRun (P ++ X) n (gInit most) 0 ys (8 * P.length) := by
 obtain ⟨n, hr⟩ := (h [] X (by simpa using hX) most).1 hm
 exact ⟨n, by simpa [gAt, gInit] using hr⟩
theorem first_reads : ReadsAs [75, 4, 0] [97] := lit_reads (by simp) first_bits (by decide +kernel)
theorem src_three (w : World) (a b c : Nat) (ha : a < 256) (hb : b < 256) (hc : c < 256) : Go.Bel.Src (w.alloc (.cells #[.int .u8 (a : Nat), .int .u8 (b : Nat), .int .u8 (c : Nat)] 5)) w.heap.size 0 [a, b, c] := by
 have h := heap_alloc_new w (.cells #[.int .u8 (a : Nat), .int .u8 (b : Nat), .int .u8 (c : Nat)] 5)
 refine ⟨fun i hi => ?_, fun i => ?_, by simp⟩
 ·rcases i with _ | _ | _ | i
  ·exact blk_cell h 0 _ rfl
  ·exact blk_cell h 1 _ rfl
  ·exact blk_cell h 2 _ rfl
  ·exfalso; simp at hi; omega
 ·rcases i with _ | _ | _ | i <;> simp <;> assumption
theorem known_ok (w : World) (hO : OrderAt w) (h4 : 4 ≤ w.heap.size) :
  Calls Tryz.prog 16 #[] w fun e w' => e = .returned (.bool true) ∧ Step (fun _ => False) w w' := by
 go_enter Tryz.func16, Tryz.ntmps16
 go_wp2_with fail
 have h1 := src_three w 75 4 0 (by decide) (by decide) (by decide)
 obtain ⟨w1, hw1⟩ : ∃ w1, w1 = w.alloc (.cells #[.int .u8 ((75 : Nat) : Int), .int .u8 ((4 : Nat) : Int), .int .u8 ((0 : Nat) : Int)] 5) := ⟨_, rfl⟩
 have hs1 : Step (fun _ => False) w w1 := by rw [hw1]; exact (Step.refl _ _).alloc _
 have hz1 : w1.heap.size = w.heap.size + 1 := by rw [hw1]; simp
 obtain ⟨n1, r1⟩ := reads_at0 first_reads (X := []) (most := 1) (all_get (fun y hy => by simp at hy; omega)) (by decide)
 obtain ⟨n2, r2⟩ := reads_at0 first_reads (X := [255, 0, 7]) (most := 10) (all_get (fun y hy => by simp at hy; omega)) (by decide)
 have hO1 := hO.step hs1 (fun _ _ x => x)
 rw [← hw1] at h1
 have HC := hide (readsG_ok w.heap.size 3 n1 n2 [75, 4, 0] ⟨#[97]⟩ 24 24 w1 h1 (by omega) hO1 (by omega) (by decide) (by decide) (by decide) r1 (by decide) r2 (by decide))
 show Calls _ _ _ (w.alloc (.cells #[.int .u8 ((75 : Nat) : Int), .int .u8 ((4 : Nat) : Int), .int .u8 ((0 : Nat) : Int)] 5)) _
 rw [← hw1]
 refine (unhide HC).mono ?_
 rintro r w2 ⟨rfl, hs2⟩
 have hs02 := hs1.trans hs2
 have hz2 := hs02.size
 have HS02 := hide hs02
 clear hw1 hs1 hs2 hs02 r1 r2 h1 hO1 HC
 have hconv := Lib.run_convert_bytes_const (P := Tryz.prog) w2 31 5 #[.int .u8 97, .int .u8 98, .int .u8 99] 3 3 Tryz.underlying31 Tryz.underlying5
 go_wp2_with fail
 obtain ⟨w3, hw3⟩ : ∃ w3, w3 = w2.alloc (.cells #[.int .u8 97, .int .u8 98, .int .u8 99] 5 (3, 4)) := ⟨_, rfl⟩
 have hs3 : Step (fun _ => False) w2 w3 := by rw [hw3]; exact (Step.refl _ _).alloc _
 have hz3 : w3.heap.size = w2.heap.size + 1 := by rw [hw3]; simp
 have hs03 := (unhide HS02).trans hs3
 have hO3 := hO.step hs03 (fun _ _ x => x)
 have hbi : BytesIn w3 (.slice (some ⟨w2.heap.size, 0, none⟩) 3 3) [97, 98, 99] := ⟨.inr ⟨w2.heap.size, 0, 3, rfl, fun i hi => by
  rw [hw3, World.cell?_alloc_mark, Nat.zero_add]
  rcases i with _ | _ | _ | i
  ·rfl
  ·rfl
  ·rfl
  ·exfalso; simp at hi; omega⟩, fun y hy => by simp at hy; omega, fun j off n c hu => by
  simp only [Value.slice.injEq, Option.some.injEq, Addr.mk.injEq, and_true] at hu
  omega, fun a n c hu => by
  simp only [Value.slice.injEq] at hu
  omega, by decide⟩
 show Calls _ _ _ (w2.alloc (.cells #[.int .u8 97, .int .u8 98, .int .u8 99] 5 (3, 4))) _
 rw [← hw3]
 refine (pack_say 2 1 (by omega) (by omega) _ _ _ (packBare_fixed [97, 98, 99]) w3 hbi hO3 (by omega)).mono ?_
 rintro r w4 ⟨v4, bits, P, rfl, hp⟩
 have hs04 := hs03.trans hp.st
 have hz4 := hs04.size
 have hR := fix_reads hp.pb.1 (fun i => by rcases i with _ | _ | _ | i <;> simp) hp.bin hp.len
 have hfl := fixPb_length hp.pb.1
 have hlen := hp.len
 have hPb : ∀ y ∈ P, y < 256 := fun y hy => by
  obtain ⟨i, hi, rfl⟩ := List.getElem_of_mem hy
  have := hp.bin.byte i
  rw [List.getElem?_eq_getElem hi] at this
  exact this
 have hP0 : 0 < P.length := by
  obtain ⟨ps, pb, _, _, _, he⟩ := hp.pb.1
  rw [hlen, he, List.length_append, List.length_append, beginBits_length]
  omega
 have HU := hide (unpackK_own 2 (by omega) _ v4 P [97, 98, 99] 3 w4 hp.row hR hPb hP0 (by simp at hfl; omega) (hO.step hs04 (fun _ _ x => x)) (by omega) (by decide) (by decide))
 have HS4 := hide hs04
 obtain ⟨va, vc, hv4⟩ := own_slice hp.row
 generalize (aroundK 2 P [97, 98, 99]).length = bn at *
 subst hv4
 clear hp hs04 hR hs03 hs3 hw3 hbi hO3 hconv
 go_wp2_with fail
 refine (unhide HU).mono ?_
 rintro r w5 ⟨v5, rfl, h5, hs5⟩
 have hs05 := (unhide HS4).trans hs5
 have h5' : w5.ownsRow w4.heap.size 5 1 v5 (bytesOf ⟨#[97, 98, 99]⟩).length (u8s (bytesOf ⟨#[97, 98, 99]⟩)) := h5
 obtain ⟨xa, xc, hv5⟩ := own_slice h5'
 have hcv : ∀ W : World, (∀ k, k < w5.heap.size → W.heap[k]? = w5.heap[k]?) → (convert 31 9 v5).run Tryz.prog W = .ok (.string ⟨#[97, 98, 99]⟩) W := fun W hW => owned_string h5' (fun k hk => hW k (h5'.lt k hk).2)
 have hcv2 := hcv (w5.alloc (.cells #[.int .i64 0, v5, .int .i64 (bn : Nat), .string ⟨#[]⟩] 45)) (fun k hk => Below.heap_alloc _ _ _ hk)
 have HF := hide (hs05.alloc (.cells #[.int .i64 0, v5, .int .i64 (bn : Nat), .string ⟨#[]⟩] 45))
 rw [hv5] at hcv2 HF ⊢
 clear h5 h5' hs5 hs05 hcv HU
 go_wp2
 go_ret
 exact ⟨rfl, unhide HF⟩
end Go.Proofs.YtbpahojchgpdnaaGreatDoor
namespace Go.Proofs.YtbpahojchgpdnaaGreatDoor
open Go.RowKit Go.Bel Go.Maps
theorem conv_str (w : World) (s : ByteArray) : (convert 9 31 (.string s)).run Tryz.prog w = .ok (.slice (some ⟨w.heap.size, 0, none⟩) s.size (grownCap w s.size 0 5))
      (w.drew.alloc (.cells (bytesRow s (grownCap w s.size 0 5)) 5 ((bytesRow s (grownCap w s.size 0 5)).size, (bytesRow s (grownCap w s.size 0 5)).size + 1))) :=
  run_bytes_of_string w 9 31 5 s Tryz.underlying9 Tryz.underlying31 Tryz.underlying5
theorem str_step (w : World) (o : Obj) : Step (fun _ => False) w (w.drew.alloc o) := ((Step.refl _ _).drew).alloc _
end Go.Proofs.YtbpahojchgpdnaaGreatDoor
