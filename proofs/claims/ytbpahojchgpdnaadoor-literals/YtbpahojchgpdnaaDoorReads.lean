/- Proved here: what reads answers where the decoder's steps over the bytes, and over the bytes with three more behind them, are known. -/
import Derived.Test.YtbpahojchgpdnaaDoorUnpack
import Derived.Test.YtbpahojchgpdnaaDoorBitsAll
import Derived.Laws.IdiomStrings
import Derived.Laws.BytesArg
import Derived.Deep.DeepCutAuto
namespace Go.Proofs.YtbpahojchgpdnaaDoor
open Go.RowKit Go.Bel Go.Maps

theorem bytes_back (s : ByteArray) : (⟨s.data.toList.toArray⟩ : ByteArray) = s := by cases s; simp

/- bytes that the call owns, as a string -/
theorem owned_string {w W : World} {base : Nat} {v : Value} {s : ByteArray} (h : w.ownsRow base 5 1 v (bytesOf s).length (u8s (bytesOf s))) (hW : ∀ k, v.ownBlock = some k → W.heap[k]? = w.heap[k]?) :
    (convert 23 9 v).run Tryd.prog W = .ok (.string s) W := by
  have h' := ownsRow_of_block h hW
  rw [bytesOf_length] at h'
  have h2 := h'
  obtain ⟨_, ⟨hv, hn⟩ | ⟨g, cap, cur, hv, _⟩⟩ := h'
  · have hs : s = ByteArray.empty := by
      cases s with
      | mk d => have : d.size = 0 := hn; simp at this; subst this; rfl
    rw [hv, hs]
    exact run_convert_bytes_nil W 23 5 Tryd.underlying23 Tryd.underlying5 0 0 9 Tryd.underlying9
  · subst hv
    have hl : s.data.toList.length = s.size := by simp
    have := run_convert_bytes_back W 23 9 5 ⟨g, 0, none⟩ cap s.data.toList Tryd.underlying23 Tryd.underlying5 Tryd.underlying9 (fun j hj => by
      have hc := h2.cellAt j (by omega)
      have e : (⟨g, 0, none⟩ : Addr).add j = ⟨g, j, none⟩ := by unfold Addr.add; split <;> simp_all
      rw [e, hc]
      have hb : j < (bytesOf s).length := by rw [bytesOf_length]; omega
      simp [u8s, bytesOf, List.getElem?_map, List.getElem?_eq_getElem hj])
    rw [hl, bytes_back] at this
    exact this

set_option maxRecDepth 20000 in
set_option maxHeartbeats 2000000 in
theorem reads_ok (g cap n1 n2 : Nat) (B : List Nat) (s : ByteArray) (s1 s2 : PS) (w : World) (hS : Go.Bel.Src w g 0 B) (hgl : g < w.heap.size) (hO : OrderAt w) (h0 : 4 ≤ w.heap.size) (hs : s.size ≤ 1000000) (hB1 : 0 < B.length) (hB2 : B.length ≤ 10000000)
    (hr1 : PRun B n1 (init s.size) 0 s1) (ho1 : s1.out = bytesOf s) (hu1 : (s1.p + 7) / 8 = B.length) (hr2 : PRun (B ++ [255, 0, 7]) n2 (init (s.size + 9)) 0 s2) (ho2 : s2.out = bytesOf s) (hu2 : (s2.p + 7) / 8 = B.length) :
    Calls Tryd.prog 8 #[.slice (some ⟨g, 0, none⟩) B.length cap, .string s] w fun r w' => r = .returned (.bool true) ∧ Step (fun _ => False) w w' := by
  obtain ⟨i0, hi, hz0, hz1, hz2⟩ := info_parts Tryd.info5
  have hu1' : usedOf 0 s1 = B.length := by unfold usedOf; rw [if_pos rfl]; exact hu1
  have hu2' : usedOf 0 s2 = B.length := by unfold usedOf; rw [if_pos rfl]; exact hu2
  have HR1 := hide hr1
  have HR2 := hide hr2
  have HO1 := hide ho1
  have HO2 := hide ho2
  have HU1 := hide hu1'
  have HU2 := hide hu2'
  clear hr1 hr2 ho1 ho2 hu1 hu2 hu1' hu2'
  go_enter Tryd.func8, Tryd.ntmps8
  go_wp2_with fail
  refine (unpack_ok g 0 cap s.size n1 0 B s1 w hS hgl hO h0 (by omega) (unhide HR1)).mono ?_
  rintro r w1 ⟨v1, rfl, hown1, hs1⟩
  rw [unhide HU1]
  rw [unhide HO1] at hown1
  obtain ⟨va, vl, vc, hv⟩ : ∃ a n c, v1 = .slice a n c := by
    obtain ⟨_, ⟨hv, _⟩ | ⟨_, _, _, hv, _⟩⟩ := hown1
    · exact ⟨_, _, _, hv⟩
    · exact ⟨_, _, _, hv⟩
  subst hv
  have HOWN1 := hide hown1
  have hz1' := hs1.size
  have hv1lt : ∀ k, (Value.slice va vl vc).ownBlock = some k → k < w1.heap.size := fun k hk => (hown1.lt k hk).2
  have HV1 := hide hv1lt
  have HS1 := hide hs1
  clear hown1 hs1 hv1lt
  go_upto_region 3 with fail
  obtain ⟨T5, hT5⟩ : ∃ T, T = w1.heap.size := ⟨_, rfl⟩
  obtain ⟨w2, hw2⟩ : ∃ w2, w2 = w1.alloc (.cells #[.int .i64 0, .slice va vl vc, .int .i64 (B.length : Nat), .string ⟨#[]⟩] 32) := ⟨_, rfl⟩
  have hst2 : Step (fun _ => False) w1 w2 := by rw [hw2]; exact (Step.refl _ _).alloc _
  have hb2 : w2.heap[T5]? = some (.cells #[.int .i64 0, .slice va vl vc, .int .i64 (B.length : Nat), .string ⟨#[]⟩] 32 (0, 0)) := by rw [hw2, hT5]; exact heap_alloc_new _ _
  have hz2' : w2.heap.size = T5 + 1 := by rw [hw2, hT5]; simp
  have hst02 := (unhide HS1).trans hst2
  have hS2 := hS.step hst02 (fun x => x)
  rw [← hw2, ← hT5]
  have hT5w : w.heap.size ≤ T5 := by omega
  have HV1' : ∀ k, (Value.slice va vl vc).ownBlock = some k → k < T5 := by rw [hT5]; exact unhide HV1
  have HVV := hide HV1'
  have hO2 := hO.step hst02 (fun _ _ x => x)
  have HST02 := hide hst02
  have HS2 := hide hS2
  have HO2' := hide hO2
  have HB2 := hide hb2
  have HOWN1w := hide (ownsRow_of_block (unhide HOWN1) (fun k hk => hst2.block k ((unhide HV1) k hk) (fun x => x)))
  have hgl2 : g < w2.heap.size := by have := (unhide HST02).size; omega
  have hz2a : w2.heap.size ≤ T5 + 1 := by omega
  have hz2b : T5 + 1 ≤ w2.heap.size := by omega
  clear hz2' hw2 hT5 hst2 hst02 hS2 hO2 hb2 hS hO HV1' HV1 HOWN1 HS1
  go_wp2_with (first
    | (at_builtin; refine wpList_append_row _ rfl (.tmp 12) (.tmp 13) 23 rfl w2.heap.size 5 i0 (.int .u8 0) 1 1 Tryd.underlying23 hi hz0 hz1 hz2 rfl (by decide) _ 0 [] rfl (World.ownsRow_nil _ _ _ _) ⟨g, 0, none⟩ B.length cap (u8s B) rfl ?a1 ?a2 ?a3 hB1 ?a4 ?a5 (Nat.le_refl _) ?_))
  case a1 => simp [u8s]
  case a2 =>
    intro j u hj
    have hjl : j < B.length := by have := (List.getElem?_eq_some_iff.1 hj).1; simpa [u8s] using this
    have e : (⟨g, 0, none⟩ : Addr).add j = ⟨g, 0 + j, none⟩ := by unfold Addr.add; split <;> simp_all
    rw [u8s_get B j hjl] at hj
    simp only [Option.some.injEq] at hj
    rw [e, (unhide HS2).cell j hjl, hj]
  case a3 => intro u hu; simp [u8s] at hu; obtain ⟨x, _, rfl⟩ := hu; rfl
  case a4 => unfold maxLen; omega
  case a5 => omega
  intro g3 cap3 w3 hown3 hgr3 hg3
  have hg3' : w2.heap.size ≤ g3 := hg3.elim (fun h => by simp [Value.ownBlock] at h) (fun h => by omega)
  try simp only [Nat.zero_add, List.nil_append] at hown3
  try rw [Nat.zero_add]
  have HOWN3 := hide hown3
  have HGR3 := hide hgr3
  clear hown3 hgr3 hg3
  go_wp2_with (first
    | (at_builtin; refine wpList_append_row _ rfl (.tmp 15) (.tmp 16) 23 rfl w2.heap.size 5 i0 (.int .u8 0) 1 1 Tryd.underlying23 hi hz0 hz1 hz2 rfl (by decide) _ B.length (u8s B) rfl ((unhide HOWN3).alloc _) ⟨w3.heap.size, 0, none⟩ 3 3 [.int .u8 255, .int .u8 0, .int .u8 7] rfl rfl ?b2 ?b3 (by decide) ?b4 ?b5 ?b6 ?_))
  case b2 =>
    intro j u hj
    have e : (⟨w3.heap.size, 0, none⟩ : Addr).add j = ⟨w3.heap.size, j, none⟩ := by unfold Addr.add; split <;> simp_all
    rw [e, cell_of_row _ _ j _ _ _ (heap_alloc_new _ _)]
    simpa using hj
  case b3 => intro u hu; simp at hu; rcases hu with rfl | rfl | rfl <;> rfl
  case b4 => unfold maxLen; omega
  case b5 => omega
  case b6 => have := (unhide HGR3).size; simp; omega
  intro g4 cap4 w4 hown4 hgr4 hg4
  have hst24 : Step (fun _ => False) w2 w4 := by
    have h1 := (Step.refl (fun _ => False) w2).grown (unhide HGR3) (fun k hk => by simp [Value.ownBlock] at hk)
    exact (h1.alloc _).grown hgr4 (fun k hk => by simp [Value.ownBlock] at hk; exact .inr (by omega))
  have hS4 : Go.Bel.Src w4 g4 0 (B ++ [255, 0, 7]) := by
    refine ⟨fun i hi' => ?_, fun i => ?_, by simp; omega⟩
    · have hc := hown4.cellAt i (by simp at hi' ⊢; omega)
      rw [Nat.zero_add, hc]
      have e : u8s B ++ [.int .u8 255, .int .u8 0, .int .u8 7] = u8s (B ++ [255, 0, 7]) := by simp [u8s]
      rw [e]
      exact u8s_get _ i hi'
    · by_cases hi' : i < B.length
      · rw [List.getElem?_append_left hi']; exact (unhide HS2).byte i
      · rw [List.getElem?_append_right (by omega)]
        have : i - B.length = 0 ∨ i - B.length = 1 ∨ i - B.length = 2 ∨ 3 ≤ i - B.length := by omega
        rcases this with h | h | h | h
        · rw [h]; decide
        · rw [h]; decide
        · rw [h]; decide
        · rw [List.getElem?_eq_none (by simpa using h)]; decide
  have hg4l : g4 < w4.heap.size := (hown4.lt g4 rfl).2
  have HS4 := hide hS4
  have HST24 := hide hst24
  have hz24 := hst24.size
  clear hown4 hgr4 hg4 hS4 hst24 HGR3 HOWN3 hg3'
  go_wp2_with fail
  rw [show ((s.size : Int) + 9) = ((s.size + 9 : Nat) : Int) by omega]
  have hun := unpack_ok g4 0 cap4 (s.size + 9) n2 0 (B ++ [255, 0, 7]) s2 w4 (unhide HS4) hg4l ((unhide HO2').step (unhide HST24) (fun _ _ x => x)) (by omega) (by omega) (unhide HR2)
  have e3 : (B ++ [255, 0, 7] : List Nat).length = B.length + 3 := by simp
  rw [e3] at hun
  refine hun.mono ?_
  clear hun e3
  rintro r w5 ⟨v5, rfl, hown5, hs5⟩
  rw [unhide HU2]
  rw [unhide HO2] at hown5
  obtain ⟨xa, xl, xc, hv⟩ : ∃ a n c, v5 = .slice a n c := by
    obtain ⟨_, ⟨hv, _⟩ | ⟨_, _, _, hv, _⟩⟩ := hown5
    · exact ⟨_, _, _, hv⟩
    · exact ⟨_, _, _, hv⟩
  subst hv
  have hst25 := (unhide HST24).trans hs5
  have hst05 := (unhide HST02).trans hst25
  have hT5l := lt_of_block (unhide HB2)
  have hb5 := hst25.at_ (unhide HB2) (fun x => x)
  have hlt5 := lt_of_block hb5
  have cv1 : ∀ W : World, (∀ k, k < w2.heap.size → W.heap[k]? = w2.heap[k]?) → (convert 23 9 (.slice va vl vc)).run Tryd.prog W = .ok (.string s) W := fun W hW => owned_string (unhide HOWN1w) (fun k hk => hW k (by have := (unhide HVV) k hk; omega))
  have cv2 : ∀ W : World, (∀ k, k < w5.heap.size → W.heap[k]? = w5.heap[k]?) → (convert 23 9 (.slice xa xl xc)).run Tryd.prog W = .ok (.string s) W := fun W hW => owned_string hown5 (fun k hk => hW k (hown5.lt k hk).2)
  have HCV1 := hide cv1
  have HCV2 := hide cv2
  have HB5 := hide hb5
  have HST05 := hide hst05
  have HST25 := hide hst25
  clear cv1 cv2 hb5 hst05 hst25 hown5 hs5 HOWN1w HVV HB2 HS2 HS4 HO2' HST24 HST02
  go_upto_region 6 with fail
  obtain ⟨T7, hT7⟩ : ∃ T, T = w5.heap.size := ⟨_, rfl⟩
  obtain ⟨w6, hw6⟩ : ∃ w6, w6 = w5.alloc (.cells #[.int .i64 0, .slice xa xl xc, .int .i64 (B.length : Nat), .string ⟨#[]⟩] 32) := ⟨_, rfl⟩
  have hst56 : Step (fun _ => False) w5 w6 := by rw [hw6]; exact (Step.refl _ _).alloc _
  have hb7 : w6.heap[T7]? = some (.cells #[.int .i64 0, .slice xa xl xc, .int .i64 (B.length : Nat), .string ⟨#[]⟩] 32 (0, 0)) := by rw [hw6, hT7]; exact heap_alloc_new _ _
  have hb6 := hst56.at_ (unhide HB5) (fun x => x)
  have cv1 := (unhide HCV1) w6 (fun k hk => ((unhide HST25).trans hst56).block k hk (fun x => x))
  have cv2 := (unhide HCV2) w6 (fun k hk => hst56.block k hk (fun x => x))
  have hfin := (unhide HST05).trans hst56
  rw [← hw6, ← hT7]
  have HFIN := hide hfin
  have a0 : w6.cell? ⟨T5, 0, none⟩ = some (.int .i64 0) := blk_cell hb6 0 _ rfl
  have a1 : w6.cell? ⟨T5, 1, none⟩ = some (.slice va vl vc) := blk_cell hb6 1 _ rfl
  have a2 : w6.cell? ⟨T5, 2, none⟩ = some (.int .i64 (B.length : Nat)) := blk_cell hb6 2 _ rfl
  have a3 : w6.cell? ⟨T5, 3, none⟩ = some (.string ⟨#[]⟩) := blk_cell hb6 3 _ rfl
  have b0 : w6.cell? ⟨T7, 0, none⟩ = some (.int .i64 0) := blk_cell hb7 0 _ rfl
  have b1 : w6.cell? ⟨T7, 1, none⟩ = some (.slice xa xl xc) := blk_cell hb7 1 _ rfl
  have b2 : w6.cell? ⟨T7, 2, none⟩ = some (.int .i64 (B.length : Nat)) := blk_cell hb7 2 _ rfl
  clear hT7 hw6 hst56 hb7 hb6 hfin HCV1 HCV2 HB5 HST05 HST25
  go_wp2
  go_ret
  exact ⟨rfl, unhide HFIN⟩
end Go.Proofs.YtbpahojchgpdnaaDoor
