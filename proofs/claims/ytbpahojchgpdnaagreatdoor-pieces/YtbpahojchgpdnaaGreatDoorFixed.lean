/- Proved here: what packFixed hands back, and Pack the fixed way. -/
import Derived.Test.YtbpahojchgpdnaaGreatDoorBkAll
import Derived.Test.YtbpahojchgpdnaaGreatDoorFixCod
set_option maxRecDepth 20000
set_option maxHeartbeats 4000000
namespace Go.Proofs.YtbpahojchgpdnaaGreatDoor
open Go.RowKit Go.Bel
def PcsIn (w : World) (pv : Value) (ps : List Pc) : Prop := (ps = [] ∧ pv = .slice none 0 0) ∨ ∃ j off cap, pv = .slice (some ⟨j, off, none⟩) ps.length cap ∧ j < w.heap.size ∧ PcsLie w j off ps
theorem PcsIn.step0 {w w' : World} {pv : Value} {ps : List Pc} (h : PcsIn w pv ps) (hs : Step (fun _ => False) w w') : PcsIn w' pv ps := by
 rcases h with h | ⟨j, off, cap, h1, h2, h3⟩
 ·exact .inl h
 ·refine .inr ⟨j, off, cap, h1, by have := hs.size; omega, fun i p hp => ?_⟩
  obtain ⟨a, b, c⟩ := h3 i p hp
  exact ⟨hs.cell (p := ⟨j, _, none⟩) a (fun x => x), hs.cell (p := ⟨j, _, none⟩) b (fun x => x), hs.cell (p := ⟨j, _, none⟩) c (fun x => x)⟩
theorem pcsIn_own {w : World} {base : Nat} {pv : Value} {ps : List Pc} (h : w.ownsRow base 159 3 pv ps.length (pcCells ps)) : PcsIn w pv ps := by
 have h9 := h
 obtain ⟨_, ⟨hv, hn⟩ | ⟨g, cap, cur, hv, hg, hh, r⟩⟩ := h
 ·exact .inl ⟨List.eq_nil_of_length_eq_zero hn, hv⟩
 ·rw [hv] at h9
  refine .inr ⟨g, 0, cap, hv, lt_of_block hh, fun i p hp => ?_⟩
  have hi : i < ps.length := (List.getElem?_eq_some_iff.1 hp).1
  have hc := pcCells_at ps i p hp
  have hl := pcCells_length ps
  refine ⟨?_, ?_, ?_⟩ <;> rw [Nat.zero_add]
  ·rw [h9.cellAt (i * 3) (by omega)]; exact hc.1
  ·rw [show i * 3 + 1 = i * 3 + 1 from rfl, h9.cellAt (i * 3 + 1) (by omega)]; exact hc.2.1
  ·rw [h9.cellAt (i * 3 + 2) (by omega)]; exact hc.2.2
theorem writePieces_any (k base b1 b2 : Nat) (v pv : Value) (bs : List Bool) (ps : List Pc) (L1 L2 : List Nat) (w : World) (h : Sk w k base v bs) (hp : PcsIn w pv ps) (hpo : ∀ j off n c, pv = .slice (some ⟨j, off, none⟩) n c → Off k v j) (hb1 : BookAt w b1 L1) (hb2 : BookAt w b2 L2) (o1 : Off k v b1) (o2 : Off k v b2)
  (hn : ∀ p ∈ ps, Needs L1 L2 p) (h256 : HasCode L1 256) (hpl : ps.length ≤ 1048576) (hl : bs.length < 60000000000000) (hbase : base ≤ w.heap.size) :
  Calls Tryz.prog 100 #[.pointer (some ⟨k, 0, none⟩), pv, .agg #[.slice (some ⟨b1, 0, none⟩) L1.length L1.length, .slice (some ⟨b2, 0, none⟩) L2.length L2.length]] w
   fun e w' => e = .returned (.tuple #[]) ∧ ∃ v' bits, Sk w' k base v' (bs ++ bits ++ codeB L1 256) ∧ PcsBits L1 L2 ps bits ∧ bits.length ≤ 48 * ps.length ∧ Wrt k w v w' v' := by
 rcases hp with ⟨rfl, rfl⟩ | ⟨j, off, cap, rfl, h2, h3⟩
 ·refine (writePieces_nil k base b1 b2 0 none v bs L1 L2 w h hb1 h256 hl hbase).mono ?_
  rintro e w' ⟨rfl, v', h1, h2⟩
  exact ⟨rfl, v', [], by rw [List.append_nil]; exact h1, rfl, by simp, h2⟩
 ·exact writePieces_some k base j off cap b1 b2 v bs ps L1 L2 w h h3 hb1 hb2 (hpo j off _ cap rfl) o1 o2 h2 hn h256 hpl hl hbase
theorem fixHas (s : Nat) (h : s < 288) : HasCode fixLens s := hasCode_may fix_le fix_may (by rw [fixLens_length]; exact h) (by rw [fixLens_get]; unfold fixG; split <;> (try split) <;> (try split) <;> (try split) <;> omega)
theorem far5_le (i : Nat) : (List.replicate 32 5)[i]?.getD 0 ≤ 15 := by
 rw [List.getElem?_replicate]; split <;> simp
theorem farHas (s : Nat) (h : s < 32) : HasCode (List.replicate 32 5) s := hasCode_may far5_le far_may (by simpa using h) (by rw [List.getElem?_replicate, if_pos h]; simp)
theorem pcs_needs {ys : List Nat} (hb : ∀ i : Nat, ys[i]?.getD 0 < 256) : ∀ {ps : List Pc} {q r : Nat}, PcsFrom ys q ps r → ∀ p ∈ ps, Needs fixLens (List.replicate 32 5) p
 | [], _, _, _, p, hp => by simp at hp
 | x :: ps, q, r, h, p, hp => by
  rcases List.mem_cons.1 hp with rfl | hp
  ·rcases h.2.1 with ⟨h1, h2⟩ | ⟨h1, h2, h3, h4, h5, h6, h7, h8⟩
   ·refine .inl ⟨h1, by rw [h2]; exact hb _, fixHas _ (by rw [h2]; have := hb q; omega)⟩
   ·exact .inr ⟨h1, h2, h4, h5, fun s x m hM => fixHas s (by have := hM.bd; omega), fun s x m hM => farHas s (by have := hM.bd; omega)⟩
  ·exact pcs_needs hb h.2.2 p hp
theorem packFixed_ok (pv : Value) (ps : List Pc) (w : World) (hp : PcsIn w pv ps) (hn : ∀ p ∈ ps, Needs fixLens (List.replicate 32 5) p) (hpl : ps.length ≤ 1048576) :
  Calls Tryz.prog 61 #[pv] w fun e w' => ∃ v' bits, e = .returned v' ∧ PcsBits fixLens (List.replicate 32 5) ps bits ∧ bits.length ≤ 48 * ps.length ∧ Packed w w' v' (beginBits true 1 ++ bits ++ codeB fixLens 256) := by
 have hold : ∀ j off n c, pv = .slice (some ⟨j, off, none⟩) n c → j < w.heap.size := by
  intro j off n c hu
  rcases hp with ⟨_, h⟩ | ⟨j', off', cap, h, h2, _⟩
  ·rw [hu] at h; cases h
  ·rw [hu] at h
   simp only [Value.slice.injEq, Option.some.injEq, Addr.mk.injEq, and_true] at h
   rw [h.1.1]; exact h2
 have hshape : ∃ a n c, pv = .slice a n c := by
  rcases hp with ⟨_, h⟩ | ⟨j', off', cap, h, _⟩
  ·exact ⟨_, _, _, h⟩
  ·exact ⟨_, _, _, h⟩
 have HP := hide hp
 have HOLD := hide hold
 obtain ⟨pa, pn, pc, rfl⟩ := hshape
 clear hp hold
 go_enter Tryz.func61, Tryz.ntmps61
 go_wp2_with fail
 obtain ⟨k, hk⟩ : ∃ k, k = w.heap.size := ⟨_, rfl⟩
 obtain ⟨w2, hw2⟩ : ∃ w2, w2 = w.alloc (.cells #[.slice none 0 0, .int .i64 0] 103) := ⟨_, rfl⟩
 have hs2 : Step (fun _ => False) w w2 := by rw [hw2]; exact (Step.refl _ _).alloc _
 have hz2 : w2.heap.size = k + 1 := by rw [hw2, hk]; simp
 have hk2 : w2.heap[k]? = some (.cells #[.slice none 0 0, .int .i64 0] 103 (0, 0)) := by
  rw [hw2, hk]; exact heap_alloc_new _ _
 have hsk : Sk w2 k (k + 1) (.slice none 0 0) [] := ⟨[], hk2, World.ownsRow_nil _ _ _ _, BitsIn.nil, rfl, by omega⟩
 rw [← hw2, ← hk]
 have HS2 := hide hs2
 have hkw : w.heap.size ≤ k := by omega
 have hkw2 : k ≤ w.heap.size := by omega
 clear hw2 hk
 refine (writeHead_ok k (k + 1) 1 true (.slice none 0 0) [] w2 hsk (by omega) (by simp) (by omega)).mono ?_
 rintro r w3 ⟨rfl, v3, h3, hw3⟩
 rw [List.nil_append] at h3
 have hz3 := hw3.step.size
 have HK3 := hide h3
 have HW3 := hide hw3
 clear h3 hw3 hsk hk2 hs2
 go_wp2_with fail
 refine (fixedLengths_ok w3).mono ?_
 rintro r w4 ⟨ga, gb, c4, rfl, hi4, hj4, hs4⟩
 have hz4 := hs4.size
 have hga := World.block_lt_of_cell? w4 _ (hi4.cell 0 (by rw [fixLens_length]; omega))
 have hgb := World.block_lt_of_cell? w4 _ (hj4.cell 0 (by simp))
 have hN := newBooks_ok ga 0 c4 gb 0 32 fixLens (List.replicate 32 5) w4 hi4 hj4 hga hgb (keysBd_may fix_le fix_may) (keysBd_may far5_le far_may) (by rw [fixLens_length]; omega) (by simp)
 rw [fixLens_length, List.length_replicate] at hN
 have HN := hide hN
 have HS4 := hide hs4
 clear hN hi4 hj4 hs4
 go_wp2_with fail
 refine (unhide HN).mono ?_
 rintro r w5 ⟨b1, b2, rfl, hb1, hb2, hk1, hk2, hs5⟩
 have hs35 : Step (fun _ => False) w3 w5 := (unhide HS4).trans hs5
 have hz5 := hs35.size
 have h25 : Wrt k w2 (.slice none 0 0) w5 v3 := (unhide HW3).step0 hs35
 have hpo : ∀ j off n c, Value.slice pa pn pc = .slice (some ⟨j, off, none⟩) n c → Off k v3 j := fun j off n c hu => by
  have h9 := unhide HOLD j off n c hu
  exact (show Off k (.slice none 0 0) j from ⟨by omega, by simp [Value.ownBlock]⟩).wrt (by omega) (unhide HW3)
 have hpi : PcsIn w5 (.slice pa pn pc) ps := by
  rcases (unhide HP).step0 (unhide HS2) with h | ⟨j, off, cap, h1, h2, h3⟩
  ·exact .inl h
  ·have ho : Off k (.slice none 0 0) j := ⟨by have := unhide HOLD j off _ _ h1; omega, by simp [Value.ownBlock]⟩
   refine .inr ⟨j, off, cap, h1, by omega, fun i p hp => ?_⟩
   obtain ⟨a, b, c⟩ := h3 i p hp
   have n : ¬ (j = k ∨ (Value.slice none 0 0).ownBlock = some j) := fun y => y.elim ho.1 ho.2
   exact ⟨h25.step.cell (p := ⟨j, _, none⟩) a n, h25.step.cell (p := ⟨j, _, none⟩) b n, h25.step.cell (p := ⟨j, _, none⟩) c n⟩
 have hC := writePieces_any k (k + 1) b1 b2 v3 (.slice pa pn pc) _ ps fixLens (List.replicate 32 5) w5 ((unhide HK3).step0 hs35) hpi hpo hk1 hk2 ((unhide HK3).off (by omega)) ((unhide HK3).off (by omega)) hn (fixHas 256 (by omega)) hpl (by rw [beginBits_length]; omega) (by omega)
 rw [fixLens_length, List.length_replicate] at hC
 have HC := hide hC
 have HW5 := hide h25
 clear hC hk1 hk2 hs5 hs35 hpo hpi h25 HN HS4 HW3 HK3
 go_wp2_with fail
 refine (unhide HC).mono ?_
 rintro r w6 ⟨rfl, v6, bits, hk6, hpb, hbl, hw6⟩
 have hwa := (unhide HW5).trans hw6
 have HO := hide (skOut k (k + 1) v6 _ w6 hk6)
 have HF := hide (show Packed w w6 v6 (beginBits true 1 ++ bits ++ codeB fixLens 256) from by
  obtain ⟨B, hB⟩ := hk6
  refine ⟨B, ownsRow_mono hB.own (by omega), hB.bits, hB.len, (unhide HS2).trans' hwa.step (fun i hi y => ?_)⟩
  rcases y with y | y
  ·omega
  ·cases y)
 obtain ⟨va, vn, vc, hvs⟩ : ∃ a n c, v6 = .slice a n c := by
  obtain ⟨B, hB⟩ := hk6
  obtain ⟨_, ⟨hv, _⟩ | ⟨g, cap, _, hv, _⟩⟩ := hB.own
  ·exact ⟨_, _, _, hv⟩
  ·exact ⟨_, _, _, hv⟩
 subst hvs
 have HPB := hide (And.intro hpb hbl)
 clear hk6 hw6 hwa hpb hbl HC
 go_wp2_with fail
 refine (unhide HO).mono ?_
 rintro r w7 ⟨rfl, rfl⟩
 go_wp2_with fail
 go_ret
 exact ⟨_, bits, rfl, (unhide HPB).1, (unhide HPB).2, unhide HF⟩
end Go.Proofs.YtbpahojchgpdnaaGreatDoor
namespace Go.Proofs.YtbpahojchgpdnaaGreatDoor
open Go.RowKit Go.Bel
def PackSaid (way : Nat) (ys : List Nat) (Pb : List Bool → Prop) : Prop := ∀ (u : Value) (w : World), BytesIn w u ys → OrderAt w → 4 ≤ w.heap.size →
 Calls Tryz.prog 40 #[.int .i64 (way : Nat), u] w fun e w' => ∃ v' bits, e = .returned v' ∧ Pb bits ∧ bits.length ≤ 800000000 ∧ Packed w w' v' bits
structure PackP (w w' : World) (kind : Nat) (ys : List Nat) (Pb : List Bool → Prop) (v : Value) (bits : List Bool) (P : List Nat) : Prop where
 pb : Pb bits
 bl : bits.length ≤ 800000000
 bin : BitsIn bits P
 len : P.length = (bits.length + 7) / 8
 row : w'.ownsRow w.heap.size 5 1 v (aroundK kind P ys).length (u8s (aroundK kind P ys))
 st : Step (fun _ => False) w w'
theorem pack_say (kind way : Nat) (hk : kind ≤ 2) (hw2 : way ≤ 2) (u : Value) (ys : List Nat) (Pb : List Bool → Prop) (hb : PackSaid way ys Pb) (w : World) (hu : BytesIn w u ys) (hO : OrderAt w) (h4 : 4 ≤ w.heap.size) :
  Calls Tryz.prog 26 #[.int .i64 (kind : Nat), .int .i64 (way : Nat), u] w fun e w' => ∃ v' bits P, e = .returned (.tuple #[v', .int .i64 ((0 : Nat) : Int)]) ∧ PackP w w' kind ys Pb v' bits P := by
 have HC := hide (hb u w hu hO h4)
 have HA := hide (show ∀ (w1 : World) (v1 : Value) (bits : List Bool), Pb bits → bits.length ≤ 800000000 → Packed w w1 v1 bits → ∃ P, Calls Tryz.prog 39 #[.int .i64 (kind : Nat), v1, u] w1 (fun e w' => ∃ v', e = .returned v' ∧ PackP w w' kind ys Pb v' bits P) from fun w1 v1 bits hpb hbl hp => by
  obtain ⟨P, h1, h2, h3, h5⟩ := packed_old hp hbl
  have hub := hu.step0 h5
  have hz := h5.size
  refine ⟨P, (around_ok kind hk v1 u P ys w1 h3 ⟨hub.bytes, hub.byte, hub.old, by have := hub.len; omega⟩).mono ?_⟩
  rintro e w' ⟨v', rfl, h6, h7⟩
  exact ⟨v', rfl, hpb, hbl, h1, h2, ownsRow_mono h6 hz, h5.trans h7⟩)
 have hlen := hu.len
 obtain ⟨ua, uc, hus⟩ := hu.shape
 obtain ⟨m, hm⟩ : ∃ m, m = ys.length := ⟨_, rfl⟩
 rw [← hm] at hus hlen
 subst hus
 clear hu hb hm
 have k0 : ¬ (kind : Int) < 0 := by omega
 have k2 : ¬ (kind : Int) > 2 := by omega
 have y0 : ¬ (way : Int) < 0 := by omega
 have y2 : ¬ (way : Int) > 2 := by omega
 have m2 : ¬ (m : Int) > 1048576 := by omega
 go_enter Tryz.func26, Tryz.ntmps26
 go_wp2_with fail
 refine (unhide HC).mono ?_
 rintro r w1 ⟨v1, bits, rfl, hpb, hbl, hp⟩
 obtain ⟨P, hcall⟩ := unhide HA w1 v1 bits hpb hbl hp
 obtain ⟨va, vn, vc, rfl⟩ : ∃ a n c, v1 = .slice a n c := by
  obtain ⟨B, hB, -⟩ := hp
  obtain ⟨a, c, h⟩ := own_slice hB
  exact ⟨a, _, c, h⟩
 have HCALL := hide hcall
 clear hp hcall HC HA hpb hbl
 go_wp2_with fail
 refine (unhide HCALL).mono ?_
 rintro r w2 ⟨v2, rfl, h3⟩
 obtain ⟨ra, rc, hrs⟩ := own_slice h3.row
 have HF := hide h3
 obtain ⟨rn, hrn⟩ : ∃ n, n = (aroundK kind P ys).length := ⟨_, rfl⟩
 rw [← hrn] at hrs
 subst hrs
 clear h3 HCALL hrn
 go_wp2_with fail
 go_ret2
 exact ⟨_, bits, P, rfl, unhide HF⟩
def FixPb (ys : List Nat) (bits : List Bool) : Prop := ∃ ps pb, PcsFrom ys 0 ps ys.length ∧ PcsBits fixLens (List.replicate 32 5) ps pb ∧ pb.length ≤ 48 * ps.length ∧ bits = beginBits true 1 ++ pb ++ codeB fixLens 256
theorem fixPb_length {ys : List Nat} {bits : List Bool} (h : FixPb ys bits) : bits.length ≤ 48 * ys.length + 18 := by
 obtain ⟨ps, pb, h1, _, h2, rfl⟩ := h
 have h3 := h1.count
 have h4 := fix_le 256
 rw [List.length_append, List.length_append, beginBits_length, codeB_length]
 omega
def FixPk (ys : List Nat) (bits : List Bool) : Prop := FixPb ys bits ∧ ∃ ps pb, PcsAre ys 0 ps ys.length ∧ PcsFrom ys 0 ps ys.length ∧ PcsBits fixLens (List.replicate 32 5) ps pb ∧ bits = beginBits true 1 ++ pb ++ codeB fixLens 256
theorem packBare_fixed (ys : List Nat) : PackSaid 1 ys (FixPk ys) := by
 intro u w hu _ _
 have hlen := hu.len
 have hby : ∀ i : Nat, ys[i]?.getD 0 < 256 := fun i => by
  rcases Nat.lt_or_ge i ys.length with y | y
  ·rw [List.getElem?_eq_getElem y]
   exact hu.byte _ (List.getElem_mem y)
  ·rw [List.getElem?_eq_none y]
   exact (by decide)
 have HBY := hide hby
 have HC := hide (find_ok u ys w hu)
 obtain ⟨ua, uc, hus⟩ := hu.shape
 obtain ⟨m, hm⟩ : ∃ m, m = ys.length := ⟨_, rfl⟩
 rw [← hm] at hus
 subst hus
 have HM := hide hm
 clear hu hm hby
 go_enter Tryz.func40, Tryz.ntmps40
 go_wp2_with fail
 refine (unhide HC).mono ?_
 rintro r w1 ⟨pv, ps, rfl, hF⟩
 have hcnt := hF.pcs.count
 have hpi := pcsIn_own hF.row
 have HP := hide (packFixed_ok pv ps w1 hpi (pcs_needs (unhide HBY) hF.pcs) (by omega))
 have HF := hide hF
 obtain ⟨pa, pn, pc, rfl⟩ : ∃ a n c, pv = .slice a n c := by
  rcases hpi with ⟨_, h⟩ | ⟨j', off', cap, h, _⟩
  ·exact ⟨_, _, _, h⟩
  ·exact ⟨_, _, _, h⟩
 clear hF hpi HC
 go_wp2_with fail
 refine (unhide HP).mono ?_
 rintro r w2 ⟨v2, bits, rfl, hpb, hbl, hp⟩
 have hst := (unhide HF).st
 have hz := hst.size
 have HFIN := hide (show ∃ bits, FixPk ys bits ∧ bits.length ≤ 800000000 ∧ Packed w w2 v2 bits from ⟨_, ⟨⟨ps, bits, (unhide HF).pcs, hpb, hbl, rfl⟩, ps, bits, (unhide HF).are, (unhide HF).pcs, hpb, rfl⟩, by
   rw [List.length_append, List.length_append, beginBits_length, codeB_length]
   have := fix_le 256
   omega, by
   obtain ⟨B, b1, b2, b3, b4⟩ := hp
   exact ⟨B, ownsRow_mono b1 hz, b2, b3, hst.trans b4⟩⟩)
 obtain ⟨va, vn, vc, hvs⟩ : ∃ a n c, v2 = .slice a n c := by
  obtain ⟨B, hB, -⟩ := hp
  obtain ⟨a, c, h⟩ := own_slice hB
  exact ⟨a, _, c, h⟩
 subst hvs
 clear hp hpb hbl hst HP
 go_wp2_with fail
 go_ret
 obtain ⟨bits, h1, h2, h3⟩ := unhide HFIN
 exact ⟨_, bits, rfl, h1, h2, h3⟩
end Go.Proofs.YtbpahojchgpdnaaGreatDoor
