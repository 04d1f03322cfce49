/- Proved here: what the law's step answers: at a step that unpacks, that makes a reader, that writes to one, that asks one. -/
import Derived.Test.YtbpahojchgpdnaaGreatDoorLawR
set_option maxRecDepth 20000
set_option maxHeartbeats 4000000
namespace Go.Proofs.YtbpahojchgpdnaaGreatDoor
open Go.RowKit Go.Bel
variable {n0 : Nat} {F : Nat → Prop} {w : World} {wb : Nat} {ps v : Value} {hs : List Hd} {pls : List Pl} {tot : Nat}
structure StepR (n0 wb : Nat) (w w' : World) (hs : List Hd) (tot' : Nat) : Prop where
 ex : ∃ ps' v' hs' pls' F', LS n0 F' w' wb ps' v' hs' pls' ∧ (∀ p ∈ pls', p.ok ∧ p.sx.size ≤ tot') ∧ hs'.length ≤ hs.length + 12 ∧ Step (fun j => n0 ≤ j) w w'
abbrev StepC (n0 wb : Nat) (w : World) (hs : List Hd) (tot' : Nat) (o : Value) : Prop := Calls Tryz.prog 32 #[.pointer (some ⟨wb, 0, none⟩), o] w fun r w' => r = .returned (.bool true) ∧ StepR n0 wb w w' hs tot'
theorem LS.stay (h : LS n0 F w wb ps v hs pls) (hp : ∀ p ∈ pls, p.ok ∧ p.sx.size ≤ tot) {tot' : Nat} (ht : tot ≤ tot') {w' : World} (st : Step (fun _ => False) w w') : StepR n0 wb w w' hs tot' :=
 ⟨ps, v, hs, pls, F, h.step0 st, fun p hq => ⟨(hp p hq).1, Nat.le_trans (hp p hq).2 ht⟩, by omega, st.mono (fun _ x => x.elim)⟩
theorem step1 (h : LS n0 F w wb ps v hs pls) (hp : ∀ p ∈ pls, p.ok ∧ p.sx.size ≤ tot) (nn wrap way most : Int) (b : ByteArray) (hb : b.size ≤ 1048576) (hl : hs.length ≤ 24000000000) : StepC n0 wb w hs (tot + b.size) (opV 1 nn wrap way b most) := by
 refine (step_unpack wb nn wrap way most b ps v hs F w h.k h.order h.w0 h.w4 (by omega) (agrees_all wrap b most hb) (by omega)).mono ?_
 rintro r w' ⟨rfl, v', hs', K', hl', _, hm', st⟩
 refine ⟨rfl, ps, v', hs', pls, _, h.kept (vb := .slice none 0 0) K' (fun b hb x => ?_) hm' st (fun j hj => ?_) (fun b hb => by simp [Value.ownBlock] at hb) (fun b hb => by simp [Value.ownBlock] at hb), fun p hq => ⟨(hp p hq).1, by have := (hp p hq).2; omega⟩, by omega, st.mono (fun j hj => ?_)⟩
 ·rcases hb.1 with ⟨y, _⟩ | y
  ·exact h.sepF b y x
  ·have := (h.lt x).2; omega
 ·rcases hj with y | y
  ·exact .inl y
  ·exact .inr (.inl y)
 ·rcases hj with y | y
  ·rw [y]; exact h.low.1
  ·exact h.low.2.1 j y
theorem bytes_none : bytesOf ⟨#[]⟩ = [] := rfl
theorem infoPl : (Tryz.prog.info? 85).map (fun i => (i.zero, i.size, i.bytes)) = some (some (.pointer none), 1, 8) := by kernel_rfl
theorem join_more (h : LS n0 F w wb ps v hs pls) (hp : ∀ p ∈ pls, p.ok ∧ p.sx.size ≤ tot) (hlen : pls.length < 4) {w1 W3 w5 : World} (st : Step (fun _ => False) w w1) {k Rb : Nat} {most : Int} {Own : Nat → Prop} (hk : k ≤ 2) (hr : Rd k (asked most) w1 Rb [] [] 3 0 [] Own) (hnew : ∀ j, Own j → w.heap.size ≤ j) (hW3 : Step (fun _ => False) w1 W3) (hpb : W3.heap[w1.heap.size]? = some (.cells (newPl w1.heap.size Rb k most Own).cells 87 (0, 0)))
  {g cap : Nat} (hown : w5.ownsRow 4 85 1 (.slice (some ⟨g, 0, none⟩) (pls.length + 1) cap) (pls.length + 1) (pls.map plPtr ++ [.pointer (some ⟨w1.heap.size, 0, none⟩)])) (hgr : W3.grownBy w5 ps.ownBlock) (hg : ps.ownBlock = some g ∨ W3.heap.size ≤ g) {tot' : Nat} (ht : tot ≤ tot') :
  w5.heap[wb]? = some (.cells #[ps, v] 70 (0, 0)) ∧ StepR n0 wb w (w5.setCell ⟨wb, 0, none⟩ (.slice (some ⟨g, 0, none⟩) (pls.length + 1) cap)) hs tot' := by
 have h3 := h.step0 (st.trans hW3)
 have z1 := st.size; have z3 := hW3.size
 have hwl := h.wlt
 have hstg : Step (fun j => ps.ownBlock = some j) W3 w5 := ⟨hgr.os, hgr.tape, hgr.output, hgr.size, fun j hj hn => hgr.block j hj (fun e => hn e.symm)⟩
 have hwb : w5.heap[wb]? = some (.cells #[ps, v] 70 (0, 0)) := hstg.at_ h3.k.blk (fun x => own_blk_ne h3.k.blk h3.row (by decide) x)
 refine ⟨hwb, ?_⟩
 have hst6 : Step (fun j => j = wb ∨ ps.ownBlock = some j) w1 (w5.setCell ⟨wb, 0, none⟩ (.slice (some ⟨g, 0, none⟩) (pls.length + 1) cap)) := ((hW3.mono (fun _ x => x.elim)).trans (hstg.mono (fun j x => .inr x))).setCell (p := ⟨wb, 0, none⟩) (.inl rfl) _
 have hpne : ¬ (w1.heap.size = wb ∨ ps.ownBlock = some w1.heap.size) := fun x => by
  rcases x with x | x
  ·omega
  ·have := (h.row.lt _ x).2; omega
 have hpb6 : (w5.setCell ⟨wb, 0, none⟩ (.slice (some ⟨g, 0, none⟩) (pls.length + 1) cap)).heap[w1.heap.size]? = some (.cells (newPl w1.heap.size Rb k most Own).cells 87 (0, 0)) := ((Step.refl (· = wb) w5).setCell (p := ⟨wb, 0, none⟩) rfl _).at_ (hstg.at_ hpb (fun x => hpne (.inr x))) (fun x => hpne (.inl x))
 have hwb6 := blk_set hwb 0 (.slice (some ⟨g, 0, none⟩) (pls.length + 1) cap)
 have hl := h.ltF
 have hls := hl.joined (fun b x => x.2) hlen st hk hr hnew (Nat.le_refl _) hpb6 (ownsRow_setCell_other hown (a := ⟨wb, 0, none⟩) (own_blk_ne hwb hown (by decide)) _) (fun b hb => ?_) (by simpa using hwb6) hst6
 ·refine ⟨_, v, hs, _, _, hls, fun p hq => ?_, by omega, (st.mono (fun _ x => x.elim)).trans (hst6.mono (fun j x => ?_))⟩
  ·rcases List.mem_append.1 hq with hq | hq
   ·exact ⟨(hp p hq).1, Nat.le_trans (hp p hq).2 ht⟩
   ·rw [List.mem_singleton] at hq
    rw [hq]
    exact ⟨⟨bytes_none, rfl⟩, Nat.zero_le _⟩
  ·rcases x with x | x
   ·rw [x]; exact h.low.1
   ·exact h.low.2.2.1 j x
 ·simp only [Value.ownBlock, Option.some.injEq] at hb
  rw [← hb]
  exact hg.imp id (fun x => by omega)
theorem step2_no (h : LS n0 F w wb ps v hs pls) (hp : ∀ p ∈ pls, p.ok ∧ p.sx.size ≤ tot) (nn wrap way most : Int) (b : ByteArray) (hw : wrap < 0 ∨ 2 < wrap) : StepC n0 wb w hs (tot + b.size) (opV 2 nn wrap way b most) := by
 have HN := hide (fun W => newReader_no wrap most W (by omega) (by omega) (by omega))
 have HF := hide (fun W hW => h.stay hp (tot' := tot + b.size) (by omega) (w' := W) hW)
 clear h hp
 unfold opV
 rcases hw with hw | hw
 ·go_enter Tryz.func32, Tryz.ntmps32
  go_wp2_with fail
  refine (unhide HN _).mono ?_
  rintro r w1 ⟨rfl, hs1⟩
  have hs1' := ((Step.refl (fun _ => False) w).alloc (.cells #[.int .i64 2, .int .i64 nn, .int .i64 wrap, .int .i64 way, .string b, .int .i64 most] 25))
  have hbk := hs1.at_ (heap_alloc_new w (.cells #[.int .i64 2, .int .i64 nn, .int .i64 wrap, .int .i64 way, .string b, .int .i64 most] 25)) (fun x => x)
  have hbl := lt_of_block hbk
  have c2 : w1.cell? ⟨w.heap.size, 2, none⟩ = some (.int .i64 wrap) := blk_cell hbk 2 _ rfl
  have HE := hide (unhide HF w1 (hs1'.trans hs1))
  clear hs1 hs1' hbk HN HF
  go_wp2_with fail
  go_ret
  exact ⟨rfl, unhide HE⟩
 ·have hw0 : ¬ wrap < 0 := by omega
  go_enter Tryz.func32, Tryz.ntmps32
  go_wp2_with fail
  refine (unhide HN _).mono ?_
  rintro r w1 ⟨rfl, hs1⟩
  have hs1' := ((Step.refl (fun _ => False) w).alloc (.cells #[.int .i64 2, .int .i64 nn, .int .i64 wrap, .int .i64 way, .string b, .int .i64 most] 25))
  have hbk := hs1.at_ (heap_alloc_new w (.cells #[.int .i64 2, .int .i64 nn, .int .i64 wrap, .int .i64 way, .string b, .int .i64 most] 25)) (fun x => x)
  have hbl := lt_of_block hbk
  have c2 : w1.cell? ⟨w.heap.size, 2, none⟩ = some (.int .i64 wrap) := blk_cell hbk 2 _ rfl
  have HE := hide (unhide HF w1 (hs1'.trans hs1))
  clear hs1 hs1' hbk HN HF
  go_wp2_with fail
  go_ret
  exact ⟨rfl, unhide HE⟩
theorem step2_ok (h : LS n0 F w wb ps v hs pls) (hp : ∀ p ∈ pls, p.ok ∧ p.sx.size ≤ tot) (nn : Int) (k : Nat) (way most : Int) (b : ByteArray) (hk : k ≤ 2) : StepC n0 wb w hs (tot + b.size) (opV 2 nn (k : Nat) way b most) := by
  obtain ⟨i0, hi, hz0, hz1, hz2⟩ := info_parts infoPl
  have HN := hide (fun W (hW : Step (fun _ => False) w W) => newReader_ok k most W hk (h.order.step hW (fun _ _ x => x)) (Nat.le_trans h.w0 hW.size))
  obtain ⟨av, cv, hps⟩ := own_slc h.row
  have hwl := h.wlt
  have hfew := h.few
  have HF := hide (fun W hW => h.stay hp (tot' := tot + b.size) (by omega) (w' := W) hW)
  have HH := hide h
  have HP := hide hp
  have HPS := hide hps
  have kl : ¬ ((k : Int) < 0) := by omega
  have kg : ¬ ((2 : Int) < (k : Int)) := by omega
  clear hp
  unfold opV
  go_enter Tryz.func32, Tryz.ntmps32
  go_wp2_with fail
  have hs0 := ((Step.refl (fun _ => False) w).alloc (.cells #[.int .i64 2, .int .i64 nn, .int .i64 (k : Nat), .int .i64 way, .string b, .int .i64 most] 25))
  refine (unhide HN _ hs0).mono ?_
  rintro r w1 ⟨Rb, Own, rfl, hrd, hnew, hs1⟩
  have hbk := hs1.at_ (heap_alloc_new w (.cells #[.int .i64 2, .int .i64 nn, .int .i64 (k : Nat), .int .i64 way, .string b, .int .i64 most] 25)) (fun x => x)
  have hbl := lt_of_block hbk
  have c2 : w1.cell? ⟨w.heap.size, 2, none⟩ = some (.int .i64 (k : Nat)) := blk_cell hbk 2 _ rfl
  have c5 : w1.cell? ⟨w.heap.size, 5, none⟩ = some (.int .i64 most) := blk_cell hbk 5 _ rfl
  have hs01 := hs0.trans hs1
  have hwb := hs01.at_ h.k.blk (fun x => x)
  have k0 : w1.cell? ⟨wb, 0, none⟩ = some (.slice av pls.length cv) := by rw [← unhide HPS]; exact blk_cell hwb 0 _ rfl
  have f0 := blk_free hwb 0
  have hwl1 := lt_of_block hwb
  by_cases h4 : pls.length < 4
  · have h4i : ((pls.length : Nat) : Int) < 4 := by omega
    have HST := hide (And.intro hs01 (And.intro hrd hnew))
    have hrow1 := own_step h.row hs01 (fun _ _ x => x)
    rw [unhide HPS] at hrow1
    have HROW := hide hrow1
    have HWB := hide hwb
    have hb4 : 4 ≤ w1.heap.size := Nat.le_trans h.w0 hs01.size
    have hwne : ¬ wb = w.heap.size := by omega
    clear HN hs1 hs0 hrd hnew hs01 hwb hbk h hrow1 HF
    have HJ := hide (show ∀ (W3 w5 : World) (g cap : Nat), Step (fun _ => False) w1 W3 → W3.heap[w1.heap.size]? = some (.cells #[.pointer (some ⟨Rb, 0, none⟩), .int .i64 (k : Nat), .int .i64 most, .string ⟨#[]⟩, .int .i64 0] 87 (0, 0)) → w5.ownsRow 4 85 1 (.slice (some ⟨g, 0, none⟩) (pls.length + 1) cap) (pls.length + 1) (pls.map plPtr ++ [.pointer (some ⟨w1.heap.size, 0, none⟩)]) → W3.grownBy w5 (Value.slice av pls.length cv).ownBlock → ((Value.slice av pls.length cv).ownBlock = some g ∨ W3.heap.size ≤ g) → w5.heap[wb]? = some (.cells #[.slice av pls.length cv, v] 70 (0, 0)) ∧ StepR n0 wb w (w5.setCell ⟨wb, 0, none⟩ (.slice (some ⟨g, 0, none⟩) (pls.length + 1) cap)) hs (tot + b.size) from fun W3 w5 g cap a1 a2 a3 a4 a5 => by
      rw [← unhide HPS] at a4 a5 ⊢
      exact join_more (unhide HH) (unhide HP) h4 (unhide HST).1 hk (unhide HST).2.1 (fun j hj => by have := (unhide HST).2.2 j hj; simp at this; omega) a1 a2 a3 a4 a5 (by omega))
    go_upto_region 9 with fail
    go_region_law (first
      | (refine step_append_row rfl (.tmp 49) (.tmp 57) 67 rfl 4 85 i0 _ 1 8 Tryz.underlying67 hi hz0 hz1 hz2 rfl (by decide) (.slice av pls.length cv) pls.length (pls.map plPtr) (by simp [Act.eval]) (by exact ((unhide HROW).alloc _).alloc _) ⟨w1.heap.size + 1, 0, none⟩ 1 1 [.pointer (some ⟨w1.heap.size, 0, none⟩)] (by simp [Act.eval]) rfl ?c1 ?c2 (by decide) ?c3 ?c4 ?c5 ?_
         case c1 =>
           intro j u hu
           match j, hu with
           | 0, hu => simp at hu; subst hu; simp [Addr.add]
         case c2 =>
           intro u hu
           simp at hu
           subst hu
           rfl
         case c3 => unfold maxLen; omega
         case c4 => omega
         case c5 => simp; omega
         intro g' cap' w5 hown hgr hg4
         obtain ⟨N1, N2⟩ := unhide HJ _ w5 g' cap' (((Step.refl (fun _ => False) w1).drew.alloc _).alloc _) (by exact ((Step.refl (fun _ => False) (w1.drew.alloc _)).alloc _).at_ (k := w1.heap.size) (heap_alloc_new w1.drew _) (fun x => x)) hown hgr hg4
         have k0' := blk_cell N1 0 _ rfl
         have f0' := blk_free N1 0
         have HN2 := hide N2
         clear hown hgr hg4 N1 N2))
    all_goals
      go_wp2_with fail
      go_ret
      exact ⟨rfl, unhide HN2⟩
  · have h4i : ¬ ((pls.length : Nat) : Int) < 4 := by omega
    have HE := hide (unhide HF w1 hs01)
    clear HN hs1 hs0 hrd hnew hs01 hwb hbk HF h
    go_wp2_with fail
    go_ret
    exact ⟨rfl, unhide HE⟩
end Go.Proofs.YtbpahojchgpdnaaGreatDoor
namespace Go.Proofs.YtbpahojchgpdnaaGreatDoor
open Go.RowKit Go.Bel
variable {n0 : Nat} {F : Nat → Prop} {w : World} {wb : Nat} {ps v : Value} {hs : List Hd} {pls : List Pl} {tot : Nat}
theorem LS.pick (h : LS n0 F w wb ps v hs pls) (h0 : 0 < pls.length) (i : Nat) (hi : i < pls.length) : ∃ g cv l1 p l2, ps = .slice (some ⟨g, 0, none⟩) pls.length cv ∧ pls = l1 ++ p :: l2 ∧ w.cell? ⟨g, i, none⟩ = some (.pointer (some ⟨p.pb, 0, none⟩)) := by
 obtain ⟨p, hp⟩ : ∃ p, pls[i]? = some p := ⟨_, List.getElem?_eq_getElem hi⟩
 obtain ⟨l1, l2, hl⟩ := List.append_of_mem (List.mem_of_getElem? hp)
 have hrow := h.row
 obtain ⟨_, ⟨_, hz⟩ | ⟨g, cap, cur, hv, _⟩⟩ := hrow
 ·omega
 ·refine ⟨g, cap, l1, p, l2, hv, hl, ?_⟩
  have h9 := h.row
  rw [hv] at h9
  rw [h9.cellAt i (by omega), List.getElem?_map, hp]
  rfl
theorem step34_none (kind : Int) (hkind : kind = 3 ∨ kind = 4) (h : LS n0 F w wb ps v hs pls) (hp : ∀ p ∈ pls, p.ok ∧ p.sx.size ≤ tot) (h0 : pls.length = 0) (nn wrap way most : Int) (b : ByteArray) : StepC n0 wb w hs (tot + b.size) (opV kind nn wrap way b most) := by
 obtain ⟨av, cv, hps⟩ := own_slc h.row
 rw [h0] at hps
 have k0 : w.cell? ⟨wb, 0, none⟩ = some (.slice av 0 cv) := by rw [← hps]; exact blk_cell h.k.blk 0 _ rfl
 have hwl := h.wlt
 have HF := hide (fun W hW => h.stay hp (tot' := tot + b.size) (by omega) (w' := W) hW)
 have e1 : (kind == 1) = false := beq_eq_false_iff_ne.2 (by omega)
 have e2 : (kind == 2) = false := beq_eq_false_iff_ne.2 (by omega)
 have e5 : (kind == 5) = false := beq_eq_false_iff_ne.2 (by omega)
 clear h hp hps h0 hkind
 unfold opV
 go_enter Tryz.func32, Tryz.ntmps32
 go_wp2_with fail
 go_ret
 exact ⟨rfl, unhide HF _ ((Step.refl _ _).alloc _)⟩
theorem step3_some (h : LS n0 F w wb ps v hs pls) (hp : ∀ p ∈ pls, p.ok ∧ p.sx.size ≤ tot) (h0 : 0 < pls.length) (nn wrap way most : Int) (b : ByteArray) (hnn : -9223372036854775808 ≤ nn ∧ nn ≤ 9223372036854775807) (hb : tot + b.size ≤ 1048576) (hl : hs.length ≤ 24000000000) : StepC n0 wb w hs (tot + b.size) (opV 3 nn wrap way b most) := by
 have hfew := h.few
 obtain ⟨i, hi, hpick⟩ := pickL_ex nn pls.length hnn.1 hnn.2 h0 (by omega)
 obtain ⟨g, cv, l1, p, l2, hps, hpls, hcell⟩ := h.pick h0 i hi
 have hs0 := ((Step.refl (fun _ => False) w).alloc (.cells #[.int .i64 3, .int .i64 nn, .int .i64 wrap, .int .i64 way, .string b, .int .i64 most] 25))
 have k0 : w.cell? ⟨wb, 0, none⟩ = some (.slice (some ⟨g, 0, none⟩) pls.length cv) := by rw [← hps]; exact blk_cell h.k.blk 0 _ rfl
 have hwl := h.wlt
 have hgl := World.block_lt_of_cell? w _ hcell
 dsimp only at hgl
 have hpm : p ∈ pls := by rw [hpls]; exact mem_mid
 have hz0 := hs0.size
 have HWR := hide (show ∀ W, Step (fun _ => False) w W → Calls Tryz.prog 46 #[.pointer (some ⟨wb, 0, none⟩), .pointer (some ⟨p.pb, 0, none⟩), .string b] W fun r w' => r = .returned (.bool true) ∧ StepR n0 wb w w' hs (tot + b.size) from fun W hW => by
  have hL := h.step0 hW
  rw [hpls] at hL
  refine (written_ok hL (hp p hpm).1 b (by have := (hp p hpm).2; omega) hl).mono ?_
  rintro r w' ⟨rfl, v', hs', p', F', a1, a2, a3, a4, a5⟩
  refine ⟨rfl, ps, v', hs', l1 ++ p' :: l2, F', a1, fun x hx => ?_, by omega, (hW.mono (fun _ x => x.elim)).trans a5⟩
  rcases mem_swap hx with rfl | hx
  ·exact ⟨a2, by have := (hp p hpm).2; omega⟩
  ·have := hp x (by rw [hpls]; exact mem_other hx)
   exact ⟨this.1, by omega⟩)
 obtain ⟨n, hn⟩ : ∃ n, n = pls.length := ⟨_, rfl⟩
 rw [← hn] at k0 hpick
 have hne : ((n : Int) == 0) = false := beq_eq_false_iff_ne.2 (by omega)
 have hii : (i : Int) < (n : Int) := by omega
 have hi0 : (0 : Int) ≤ (i : Int) := by omega
 have HPK := hide hpick
 have hg1 : ¬ g = w.heap.size := by omega
 have hw1 : ¬ wb = w.heap.size := by omega
 clear h hp h0 hps hpls hpm hpick hn hi hz0 hs0 hfew
 unfold opV
 go_enter Tryz.func32, Tryz.ntmps32
 go_wp2_with fail
 go_quiet (first | (go_at_call 45; exact Calls.quiet_of_same (unhide HPK _)))
 go_wp2_with fail
 refine (unhide HWR _ (((Step.refl (fun _ => False) w).alloc _).drewN _)).mono ?_
 rintro r w3 ⟨rfl, hS⟩
 have HS := hide hS
 clear hS HWR HPK
 go_wp2_with fail
 go_ret
 exact ⟨rfl, unhide HS⟩
theorem step4_some (h : LS n0 F w wb ps v hs pls) (hp : ∀ p ∈ pls, p.ok ∧ p.sx.size ≤ tot) (h0 : 0 < pls.length) (nn wrap way most : Int) (b : ByteArray) (hnn : -9223372036854775808 ≤ nn ∧ nn ≤ 9223372036854775807) (hb : tot + b.size ≤ 1048576) : StepC n0 wb w hs (tot + b.size) (opV 4 nn wrap way b most) := by
 have hfew := h.few
 obtain ⟨i, hi, hpick⟩ := pickL_ex nn pls.length hnn.1 hnn.2 h0 (by omega)
 obtain ⟨g, cv, l1, p, l2, hps, hpls, hcell⟩ := h.pick h0 i hi
 have hs0 := ((Step.refl (fun _ => False) w).alloc (.cells #[.int .i64 4, .int .i64 nn, .int .i64 wrap, .int .i64 way, .string b, .int .i64 most] 25))
 have k0 : w.cell? ⟨wb, 0, none⟩ = some (.slice (some ⟨g, 0, none⟩) pls.length cv) := by rw [← hps]; exact blk_cell h.k.blk 0 _ rfl
 have hwl := h.wlt
 have hgl := World.block_lt_of_cell? w _ hcell
 dsimp only at hgl
 have hpm : p ∈ pls := by rw [hpls]; exact mem_mid
 have hz0 := hs0.size
 have HWR := hide (show ∀ W, Step (fun _ => False) w W → Calls Tryz.prog 47 #[.pointer (some ⟨p.pb, 0, none⟩)] W fun r w' => r = .returned (.bool true) ∧ StepR n0 wb w w' hs (tot + b.size) from fun W hW => by
  have hL := h.step0 hW
  rw [hpls] at hL
  refine (asked_ok hL (hp p hpm).1 (by have := (hp p hpm).2; omega)).mono ?_
  rintro r w' ⟨rfl, hst⟩
  exact ⟨rfl, h.stay hp (by omega) (hW.trans hst)⟩)
 obtain ⟨n, hn⟩ : ∃ n, n = pls.length := ⟨_, rfl⟩
 rw [← hn] at k0 hpick
 have hne : ((n : Int) == 0) = false := beq_eq_false_iff_ne.2 (by omega)
 have hii : (i : Int) < (n : Int) := by omega
 have hi0 : (0 : Int) ≤ (i : Int) := by omega
 have HPK := hide hpick
 have hg1 : ¬ g = w.heap.size := by omega
 have hw1 : ¬ wb = w.heap.size := by omega
 clear h hp h0 hps hpls hpm hpick hn hi hz0 hs0 hfew
 unfold opV
 go_enter Tryz.func32, Tryz.ntmps32
 go_wp2_with fail
 go_quiet (first | (go_at_call 45; exact Calls.quiet_of_same (unhide HPK _)))
 go_wp2_with fail
 refine (unhide HWR _ (((Step.refl (fun _ => False) w).alloc _).drewN _)).mono ?_
 rintro r w3 ⟨rfl, hS⟩
 have HS := hide hS
 clear hS HWR HPK
 go_wp2_with fail
 go_ret
 exact ⟨rfl, unhide HS⟩
theorem step14 (h : LS n0 F w wb ps v hs pls) (hp : ∀ p ∈ pls, p.ok ∧ p.sx.size ≤ tot) (kind nn wrap way most : Int) (b : ByteArray) (hk : 1 ≤ kind ∧ kind ≤ 4) (hnn : -9223372036854775808 ≤ nn ∧ nn ≤ 9223372036854775807) (hb : tot + b.size ≤ 1048576) (hl : hs.length ≤ 24000000000) : StepC n0 wb w hs (tot + b.size) (opV kind nn wrap way b most) := by
 have hc : kind = 1 ∨ kind = 2 ∨ kind = 3 ∨ kind = 4 := by omega
 rcases hc with rfl | rfl | hc
 ·exact step1 h hp nn wrap way most b (by omega) hl
 ·by_cases hw : wrap < 0 ∨ 2 < wrap
  ·exact step2_no h hp nn wrap way most b hw
  ·obtain ⟨k, rfl⟩ : ∃ k : Nat, wrap = (k : Int) := ⟨wrap.toNat, by omega⟩
   exact step2_ok h hp nn k way most b (by omega)
 ·by_cases h0 : pls.length = 0
  ·exact step34_none kind hc h hp h0 nn wrap way most b
  ·rcases hc with rfl | rfl
   ·exact step3_some h hp (by omega) nn wrap way most b hnn hb hl
   ·exact step4_some h hp (by omega) nn wrap way most b hnn hb
end Go.Proofs.YtbpahojchgpdnaaGreatDoor
namespace Go.Proofs.YtbpahojchgpdnaaGreatDoor
open Go.RowKit Go.Bel
def totOf (ops : List OpS) (i : Nat) : Nat := ((ops.take i).map (·.s.size)).sum
theorem totOf_succ {ops : List OpS} {i : Nat} {o : OpS} (h : ops[i]? = some o) : totOf ops (i + 1) = totOf ops i + o.s.size := by
 unfold totOf
 rw [List.take_add_one, h]
 simp
theorem totOf_mono (ops : List OpS) (i d : Nat) : totOf ops i ≤ totOf ops (i + d) := by
 induction d with
 | zero => exact Nat.le_refl _
 | succ d ih =>
  refine Nat.le_trans ih ?_
  cases h : ops[i + d]? with
  | none =>
   have : totOf ops (i + d + 1) = totOf ops (i + d) := by unfold totOf; rw [List.take_add_one, h]; simp
   rw [← Nat.add_assoc, this]
   exact Nat.le_refl _
  | some r => rw [← Nat.add_assoc, totOf_succ h]; omega
structure UpS (ops : List OpS) (w wr : World) (wb i : Nat) : Prop where
 ex : ∃ ps v hs pls F tot, LS w.heap.size F wr wb ps v hs pls ∧ (∀ p ∈ pls, p.ok ∧ p.sx.size ≤ tot) ∧ tot ≤ totOf ops i ∧ hs.length ≤ 12 * i
 step : Step (fun _ => False) w wr
theorem UpS.step0 {ops : List OpS} {w wr w2 : World} {wb i : Nat} (I : UpS ops w wr wb i) (h : Step (fun _ => False) wr w2) : UpS ops w w2 wb i := by
 obtain ⟨ps, v, hs, pls, F, tot, a, b⟩ := I.ex
 exact ⟨⟨ps, v, hs, pls, F, tot, a.step0 h, b⟩, I.step.trans h⟩
theorem UpS.skip {ops : List OpS} {w wr : World} {wb i : Nat} (I : UpS ops w wr wb i) : UpS ops w wr wb (i + 1) := by
 obtain ⟨ps, v, hs, pls, F, tot, a, b, c, d⟩ := I.ex
 have := totOf_mono ops i 1
 exact ⟨⟨ps, v, hs, pls, F, tot, a, b, by omega, by omega⟩, I.step⟩
theorem looks_nil (wb : Nat) (a : Option Addr) (c : Nat) (w : World) (h : w.cell? ⟨wb, 1, none⟩ = some (.slice a 0 c)) :
  Calls Tryz.prog 33 #[.pointer (some ⟨wb, 0, none⟩)] w fun r w' => r = .returned (.bool true) ∧ Step (fun _ => False) w w' := by
 go_enter Tryz.func33, Tryz.ntmps33
 go_wp2_with fail
 go_loopg [3] 1 (fun k i wr => i = .int .i64 0 ∧ wr = w)
 case atStart => exact ⟨rfl, rfl⟩
 case round =>
  obtain ⟨rfl, rfl⟩ := hrel
  go_wp2_with fail
  go_ret
  exact ⟨rfl, Step.refl _ _⟩
theorem looks_any {w : World} {wb : Nat} {ps v : Value} {hs : List Hd} {F : Nat → Prop} (K : KAt w 4 wb ps v hs F) (hl : hs.length ≤ 281474976710656) :
  Calls Tryz.prog 33 #[.pointer (some ⟨wb, 0, none⟩)] w fun r w' => r = .returned (.bool true) ∧ Step (fun _ => False) w w' := by
 have own := K.own
 have hb := K.blk
 obtain ⟨_, ⟨hv, hz⟩ | ⟨g, cap, cur, hv, _⟩⟩ := own
 ·subst hv
  exact looks_nil wb none 0 w (blk_cell hb 1 _ rfl)
 ·have own := K.own
  subst hv
  refine looks_ok wb g hs.length cap w ⟨blk_cell hb 1 _ rfl, fun j hj => ?_, hl⟩
  obtain ⟨q, hq⟩ : ∃ q, hs[j]? = some q := ⟨_, List.getElem?_eq_getElem hj⟩
  have hc := own.cellAt j (by omega)
  rw [List.getElem?_map, hq] at hc
  exact ⟨q.hp, q.v, q.n, q.m, hc, (K.each q (List.mem_of_getElem? hq)).1.hold⟩
def StepsOk (la : Int) (ops : List OpS) : Prop := ∀ o ∈ ops, 1 ≤ o.kind → o.kind ≤ la → ∀ (n0 : Nat) (F : Nat → Prop) (w : World) (wb : Nat) (ps v : Value) (hs : List Hd) (pls : List Pl) (tot : Nat), LS n0 F w wb ps v hs pls → (∀ p ∈ pls, p.ok ∧ p.sx.size ≤ tot) → tot + o.s.size ≤ 1048576 → hs.length ≤ 24000000000 → StepC n0 wb w hs (tot + o.s.size) (opV o.kind o.nn o.wrap o.way o.s o.most)
theorem uptoS_ok (la : Int) (g off cap : Nat) (ops : List OpS) (w : World) (hS : ScriptAt w g off ops) (hA : StepsOk la ops) (ht : totOf ops ops.length ≤ 1048576) (hO : OrderAt w) (h4 : 4 ≤ w.heap.size) (hl : ops.length ≤ 1000000000) :
  Calls Tryz.prog 15 #[.slice (some ⟨g, off, none⟩) ops.length cap, .int .i64 1, .int .i64 la] w fun r w' => r = .returned (.int .i64 (-1)) ∧ Step (fun _ => False) w w' := by
 have HS := hide hS
 have HA := hide hA
 have HT := hide ht
 have h0 : Step (fun _ => False) w (w.alloc (.cells #[.slice none 0 0, .slice none 0 0] 70)) := (Step.refl _ _).alloc _
 have I0 : UpS ops w (w.alloc (.cells #[.slice none 0 0, .slice none 0 0] 70)) w.heap.size 0 :=
  ⟨⟨.slice none 0 0, .slice none 0 0, [], [], fun _ => False, 0, ⟨⟨heap_alloc_new _ _, World.ownsRow_nil _ _ _ _, fun q hq => (by cases hq)⟩, fun _ x => x.elim, World.ownsRow_nil _ _ _ _, fun p hp => (by cases hp), fun p hp => (by cases hp), by decide, List.Pairwise.nil, fun b hb => (by obtain ⟨p, hp, _⟩ := hb; cases hp), hO.step h0 (fun _ _ x => x), h4, Nat.le_refl _, fun b hb => (by simp [Value.ownBlock] at hb), fun b hb => (by simp [Value.ownBlock] at hb), fun p hp => (by cases hp)⟩, fun p hp => (by cases hp), Nat.zero_le _, Nat.zero_le _⟩, h0⟩
 have HI0 := hide I0
 clear hS hA hO h0 I0 ht
 go_enter Tryz.func15, Tryz.ntmps15
 go_wp2_with fail
 go_loopg [8, 9, 10] ops.length (fun k u8 u9 u10 wr => ∃ (i : Nat), u8 = .int .i64 (i : Nat) ∧ k + i = ops.length ∧ UpS ops w wr w.heap.size i)
 case atStart => exact ⟨0, rfl, by omega, unhide HI0⟩
 case round =>
  obtain ⟨i, rfl, hk, I⟩ := hrel
  by_cases hend : i = ops.length
  ·have hnl : ¬ ((i : Int) < (ops.length : Int)) := by omega
   have HF := hide I.step
   clear I
   go_wp2_with fail
   go_ret
   exact ⟨rfl, unhide HF⟩
  ·have hnl : (i : Int) < (ops.length : Int) := by omega
   have hi0 : (0 : Int) ≤ (i : Int) := by omega
   obtain ⟨o, ho⟩ : ∃ o, ops[i]? = some o := ⟨_, List.getElem?_eq_getElem (by omega)⟩
   have hSc := (unhide HS).step I.step (fun x => x)
   have q0 : wr.cell? ⟨g, off + i * 6, none⟩ = some (.int .i64 o.kind) := hSc.cell i o ho 0 (by omega)
   have q1 : wr.cell? ⟨g, off + i * 6 + 1, none⟩ = some (.int .i64 o.nn) := hSc.cell i o ho 1 (by omega)
   have q2 : wr.cell? ⟨g, off + i * 6 + 2, none⟩ = some (.int .i64 o.wrap) := hSc.cell i o ho 2 (by omega)
   have q3 : wr.cell? ⟨g, off + i * 6 + 3, none⟩ = some (.int .i64 o.way) := hSc.cell i o ho 3 (by omega)
   have q4 : wr.cell? ⟨g, off + i * 6 + 4, none⟩ = some (.string o.s) := hSc.cell i o ho 4 (by omega)
   have q5 : wr.cell? ⟨g, off + i * 6 + 5, none⟩ = some (.int .i64 o.most) := hSc.cell i o ho 5 (by omega)
   have HI := hide I
   have HO := hide ho
   clear I hSc ho
   by_cases hk1 : o.kind < 1
   ·go_wp2_with fail
    go_roundg (gk - 1)
    case measure => omega
    case rel => exact ⟨i + 1, rfl, by omega, (unhide HI).skip⟩
   ·by_cases hk2 : la < o.kind
    ·go_wp2_with fail
     go_roundg (gk - 1)
     case measure => omega
     case rel => exact ⟨i + 1, rfl, by omega, (unhide HI).skip⟩
    ·have hmem := List.mem_of_getElem? (unhide HO)
     have HST := hide (show Calls Tryz.prog 32 #[.pointer (some ⟨w.heap.size, 0, none⟩), opV o.kind o.nn o.wrap o.way o.s o.most] wr fun r w' => r = .returned (.bool true) ∧ UpS ops w w' w.heap.size (i + 1) from by
      obtain ⟨ps, v, hs, pls, F, tot, a, b, c, d⟩ := (unhide HI).ex
      have e1 := totOf_succ (unhide HO)
      have e2 := totOf_mono ops (i + 1) (ops.length - (i + 1))
      rw [show i + 1 + (ops.length - (i + 1)) = ops.length by omega] at e2
      have e3 := unhide HT
      refine (unhide HA o hmem (by omega) (by omega) w.heap.size F wr w.heap.size ps v hs pls tot a b (by omega) (by omega)).mono ?_
      rintro r w' ⟨rfl, hR⟩
      obtain ⟨ps', v', hs', pls', F', x1, x2, x3, x4⟩ := hR.ex
      exact ⟨rfl, ⟨ps', v', hs', pls', F', _, x1, x2, by omega, by omega⟩, (unhide HI).step.trans' x4 (fun j hj x => by omega)⟩)
     unfold opV at HST
     clear hmem
     go_wp2_with fail
     refine (unhide HST).mono ?_
     rintro r w2 ⟨rfl, I2⟩
     have HLK := hide (show Calls Tryz.prog 33 #[.pointer (some ⟨w.heap.size, 0, none⟩)] w2 fun r w' => r = .returned (.bool true) ∧ Step (fun _ => False) w2 w' from by
      obtain ⟨ps, v, hs, pls, F, tot, a, b, c, d⟩ := I2.ex
      exact looks_any a.k (by omega))
     have HI2 := hide I2
     clear HST I2 HI
     go_wp2_with fail
     refine (unhide HLK).mono ?_
     rintro r w3 ⟨rfl, hs3⟩
     have HI3 := hide ((unhide HI2).step0 hs3)
     clear HLK HI2 hs3
     go_wp2_with fail
     go_roundg (gk - 1)
     case measure => omega
     case rel => exact ⟨i + 1, rfl, by omega, unhide HI3⟩
theorem uptoS_nil (la : Int) (a : Option Addr) (c : Nat) (w : World) : Calls Tryz.prog 15 #[.slice a 0 c, .int .i64 1, .int .i64 la] w fun r w' => r = .returned (.int .i64 (-1)) ∧ Step (fun _ => False) w w' := by
 have h0 : Step (fun _ => False) w (w.alloc (.cells #[.slice none 0 0, .slice none 0 0] 70)) := (Step.refl _ _).alloc _
 have H0 := hide h0
 clear h0
 go_enter Tryz.func15, Tryz.ntmps15
 go_wp2_with fail
 go_loopg [8] 1 (fun k u8 wr => u8 = .int .i64 0 ∧ Step (fun _ => False) w wr)
 case atStart => exact ⟨rfl, unhide H0⟩
 case round =>
  obtain ⟨rfl, hs⟩ := hrel
  go_wp2_with fail
  go_ret
  exact ⟨rfl, hs⟩
theorem uptoS_any (la : Int) (v : Value) (ops : List OpS) (w : World) (hS : Holds w v ops) (hA : StepsOk la ops) (ht : totOf ops ops.length ≤ 1048576) (hO : OrderAt w) (h4 : 4 ≤ w.heap.size) (hl : ops.length ≤ 1000000000) :
  Calls Tryz.prog 15 #[v, .int .i64 1, .int .i64 la] w fun r w' => r = .returned (.int .i64 (-1)) ∧ Step (fun _ => False) w w' := by
 rcases hS with ⟨a, c, rfl, rfl⟩ | ⟨g, off, cap, rfl, hS⟩
 ·exact uptoS_nil la a c w
 ·exact uptoS_ok la g off cap ops w hS hA ht hO h4 hl
def OpS.inr (o : OpS) : Prop := -9223372036854775808 ≤ o.nn ∧ o.nn ≤ 9223372036854775807
theorem steps14 (ops : List OpS) (h : ∀ o ∈ ops, o.inr) : StepsOk 4 ops := fun o ho h1 h4 _ _ _ _ _ _ _ _ _ a b c d => step14 a b o.kind o.nn o.wrap o.way o.most o.s ⟨h1, h4⟩ (h o ho) c d
end Go.Proofs.YtbpahojchgpdnaaGreatDoor
namespace Go.Proofs.YtbpahojchgpdnaaGreatDoor
open Go.RowKit Go.Bel
theorem examples_tot (wrap : Int) : totOf (examples wrap) 8 ≤ 1048576 := by
 have e : totOf (examples wrap) 8 = 24 := by kernel_rfl
 omega
theorem exampleS_ok (la wrap : Int) (w : World) (hA : StepsOk la (examples wrap)) (hO : OrderAt w) (h4 : 4 ≤ w.heap.size) :
  Calls Tryz.prog 14 #[.int .i64 1, .int .i64 la, .int .i64 wrap] w fun r w' => r = .returned (.bool true) ∧ Step (fun _ => False) w w' := by
 obtain ⟨w1, hw1⟩ : ∃ w1, w1 = w.alloc (.cells (opCells (examples wrap)).toArray 25) := ⟨_, rfl⟩
 have h1 : Step (fun _ => False) w w1 := by rw [hw1]; exact (Step.refl _ _).alloc _
 have hb : w1.heap[w.heap.size]? = some (.cells (opCells (examples wrap)).toArray 25 (0, 0)) := by rw [hw1]; exact heap_alloc_new _ _
 have HU := hide (uptoS_ok la w.heap.size 0 8 (examples wrap) w1 (script_of_row hb (by rw [List.toList_toArray, List.take_of_length_le (by rw [opCells_length]; exact Nat.le_refl _)])) hA (examples_tot wrap) (hO.step h1 (fun _ _ x => x)) (Nat.le_trans h4 h1.size) (by simp [examples]))
 have H1 := hide h1
 clear hO h1 hb hA
 go_enter Tryz.func14, Tryz.ntmps14
 go_wp2_with fail
 subst hw1
 refine Calls.mono (unhide HU) ?_
 rintro r w2 ⟨rfl, hs2⟩
 have HF := hide ((unhide H1).trans hs2)
 clear HU H1 hs2
 go_wp2_with fail
 go_ret
 exact ⟨rfl, unhide HF⟩
theorem examples_in (wrap : Int) : ∀ o ∈ examples wrap, o.inr := by
 intro o ho
 simp only [examples, List.mem_cons, List.not_mem_nil, or_false] at ho
 rcases ho with rfl | rfl | rfl | rfl | rfl | rfl | rfl | rfl <;> exact ⟨by show (-9223372036854775808 : Int) ≤ 0; decide, by show (0 : Int) ≤ 9223372036854775807; decide⟩
theorem writes_true (v : Value) (ops : List OpS) (w : World) (hS : Holds w v ops) (hin : ∀ o ∈ ops, o.inr) (ht : totOf ops ops.length ≤ 1048576) (hO : OrderAt w) (h4 : 4 ≤ w.heap.size) (hl : ops.length ≤ 1000000000) :
  Calls Tryz.prog 11 #[v] w fun r w' => r = .returned (.bool true) ∧ Step (fun _ => False) w w' := by
 have HE := hide (exampleS_ok 4 1 w (steps14 _ (examples_in 1)) hO h4)
 have HU := hide (fun w1 (hs : Step (fun _ => False) w w1) => uptoS_any 4 v ops w1 (holds_step hS hs) (steps14 ops hin) ht (hO.step hs (fun _ _ x => x)) (Nat.le_trans h4 hs.size) hl)
 clear hS hO hin ht
 go_enter Tryz.func11, Tryz.ntmps11
 go_wp2_with fail
 refine (unhide HE).mono ?_
 rintro r w1 ⟨rfl, hs1⟩
 have HC := hide (unhide HU w1 hs1)
 have H1 := hide hs1
 clear HE HU hs1
 go_wp2_with fail
 refine (unhide HC).mono ?_
 rintro r w2 ⟨rfl, hs2⟩
 have HF := hide ((unhide H1).trans hs2)
 clear hs2 H1 HC
 go_wp2_with fail
 go_ret
 exact ⟨rfl, unhide HF⟩
end Go.Proofs.YtbpahojchgpdnaaGreatDoor
