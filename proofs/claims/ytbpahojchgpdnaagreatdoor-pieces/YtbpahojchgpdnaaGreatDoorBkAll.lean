/- Proved here: what writePieces writes. -/
import Derived.Deep.DeepCutAuto
import Derived.Test.YtbpahojchgpdnaaGreatDoorBooks
set_option maxRecDepth 20000
set_option maxHeartbeats 4000000
namespace Go.Proofs.YtbpahojchgpdnaaGreatDoor
open Go.RowKit Go.Bel
def PcsLie (w : World) (j off : Nat) (ps : List Pc) : Prop := ∀ i p, ps[i]? = some p → w.cell? ⟨j, off + i * 3, none⟩ = some (.int .u8 (p.b : Nat)) ∧ w.cell? ⟨j, off + i * 3 + 1, none⟩ = some (.int .i64 (p.l : Nat)) ∧ w.cell? ⟨j, off + i * 3 + 2, none⟩ = some (.int .i64 (p.d : Nat))
structure Wrs (w : World) (k : Nat) (v : Value) (j off X b1 b2 : Nat) (L1 L2 : List Nat) (ps : List Pc) : Prop where
 lie : PcsLie w j off ps
 box : w.heap[X]? = some (.cells #[.slice (some ⟨b1, 0, none⟩) L1.length L1.length, .slice (some ⟨b2, 0, none⟩) L2.length L2.length] 152 (0, 0))
 bk1 : BookAt w b1 L1
 bk2 : BookAt w b2 L2
 oj : Off k v j
 oX : Off k v X
 o1 : Off k v b1
 o2 : Off k v b2
 jl : j < w.heap.size
theorem Wrs.wrt {w w' : World} {k : Nat} {v v' : Value} {j off X b1 b2 : Nat} {L1 L2 : List Nat} {ps : List Pc} (h : Wrs w k v j off X b1 b2 L1 L2 ps) (hw : Wrt k w v w' v') : Wrs w' k v' j off X b1 b2 L1 L2 ps := by
 have hz := hw.step.size
 have hl := h.jl
 have n : ∀ {x}, Off k v x → ¬ (x = k ∨ v.ownBlock = some x) := fun o y => y.elim o.1 o.2
 refine ⟨fun i p hp => ?_, hw.step.at_ h.box (n h.oX), hw.step.at_ h.bk1 (n h.o1), hw.step.at_ h.bk2 (n h.o2), h.oj.wrt h.jl hw, h.oX.wrt (lt_of_block h.box) hw, h.o1.wrt (lt_of_block h.bk1) hw, h.o2.wrt (lt_of_block h.bk2) hw, by omega⟩
 obtain ⟨h1, h2, h3⟩ := h.lie i p hp
 exact ⟨hw.step.cell (p := ⟨j, _, none⟩) h1 (n h.oj), hw.step.cell (p := ⟨j, _, none⟩) h2 (n h.oj), hw.step.cell (p := ⟨j, _, none⟩) h3 (n h.oj)⟩
theorem writePieces_some (k base j off cap b1 b2 : Nat) (v : Value) (bs : List Bool) (ps : List Pc) (L1 L2 : List Nat) (w : World) (h : Sk w k base v bs) (hW : PcsLie w j off ps) (hb1 : BookAt w b1 L1) (hb2 : BookAt w b2 L2) (oj : Off k v j) (o1 : Off k v b1) (o2 : Off k v b2) (jl : j < w.heap.size)
  (hn : ∀ p ∈ ps, Needs L1 L2 p) (h256 : HasCode L1 256) (hpl : ps.length ≤ 1048576) (hl : bs.length < 60000000000000) (hbase : base ≤ w.heap.size) :
  Calls Tryz.prog 100 #[.pointer (some ⟨k, 0, none⟩), .slice (some ⟨j, off, none⟩) ps.length cap, .agg #[.slice (some ⟨b1, 0, none⟩) L1.length L1.length, .slice (some ⟨b2, 0, none⟩) L2.length L2.length]] w
   fun e w' => e = .returned (.tuple #[]) ∧ ∃ v' bits, Sk w' k base v' (bs ++ bits ++ codeB L1 256) ∧ PcsBits L1 L2 ps bits ∧ bits.length ≤ 48 * ps.length ∧ Wrt k w v w' v' := by
 have hk := h.lt
 go_enter Tryz.func100, Tryz.ntmps100
 go_wp2_with fail
 obtain ⟨X, hX⟩ : ∃ X, X = w.heap.size := ⟨_, rfl⟩
 obtain ⟨w0, hw0⟩ : ∃ w0, w0 = w.alloc (.cells #[.slice (some ⟨b1, 0, none⟩) L1.length L1.length, .slice (some ⟨b2, 0, none⟩) L2.length L2.length] 152) := ⟨_, rfl⟩
 have hs0 : Step (fun _ => False) w w0 := by rw [hw0]; exact (Step.refl _ _).alloc _
 have hbox : w0.heap[X]? = some (.cells #[.slice (some ⟨b1, 0, none⟩) L1.length L1.length, .slice (some ⟨b2, 0, none⟩) L2.length L2.length] 152 (0, 0)) := by rw [hw0, hX]; exact heap_alloc_new _ _
 have hW0 : Wrs w0 k v j off X b1 b2 L1 L2 ps := by
  refine ⟨fun i p hp => ?_, hbox, hs0.at_ hb1 (fun x => x), hs0.at_ hb2 (fun x => x), oj, by rw [hX]; exact h.off (Nat.le_refl _), o1, o2, by have := hs0.size; omega⟩
  obtain ⟨c1, c2, c3⟩ := hW i p hp
  exact ⟨hs0.cell (p := ⟨j, _, none⟩) c1 (fun x => x), hs0.cell (p := ⟨j, _, none⟩) c2 (fun x => x), hs0.cell (p := ⟨j, _, none⟩) c3 (fun x => x)⟩
 have HW0 := hide hW0
 have HK0 := hide (h.step0 hs0)
 have HR0 := hide (⟨hs0.mono (fun _ y => y.elim), fun _ y => .inl y⟩ : Wrt k w v w0 v)
 have hz0 := hs0.size
 rw [← hX, ← hw0]
 have hX1 : X < w0.heap.size := lt_of_block hbox
 clear hX hW hb1 hb2 oj o1 o2 hW0 hbox hs0 hw0 h
 go_loopg [10] ps.length (fun g u10 wr => ∃ (i : Nat) (v1 : Value) (bits : List Bool), u10 = .int .i64 (i : Nat) ∧ g + i = ps.length ∧ Sk wr k base v1 (bs ++ bits) ∧ PcsBits L1 L2 (ps.take i) bits ∧ bits.length ≤ 48 * i ∧ Wrt k w0 v wr v1)
 case atStart => exact ⟨0, v, [], rfl, by omega, by rw [List.append_nil]; exact unhide HK0, rfl, by simp, Wrt.refl _ _ _⟩
 case round =>
  clear HK0
  obtain ⟨i, v1, bits, rfl, hg, hsk, hbits, hbl, hwr⟩ := hrel
  have hwrs := (unhide HW0).wrt hwr
  have hzr := hwr.step.size
  by_cases hi : i < ps.length
  ·have hi' : (i : Int) < (ps.length : Int) := by omega
   obtain ⟨p, hp⟩ : ∃ p, ps[i]? = some p := ⟨_, List.getElem?_eq_getElem hi⟩
   obtain ⟨c1, c2, c3⟩ := hwrs.lie i p hp
   have hneed := hn p (List.mem_of_getElem? hp)
   have HP := hide hp
   have HSK := hide hsk
   have HB := hide hbits
   have HWR := hide hwr
   have HWS := hide hwrs
   clear hp hsk hbits hwr hwrs
   rcases hneed with ⟨hl0, hb256, hcode⟩ | ⟨hl3, hl258, hd1, hd2, hcl, hcd⟩
   ·have hl0' : ((p.l : Int) == 0) = true := beq_iff_eq.2 (by omega)
    have hbox := (unhide HWS).box
    obtain ⟨x0, x1, -, -⟩ := blk_two hbox
    clear hbox
    have hXr : X < wr.heap.size := by omega
    have hP1 := heap_alloc_new wr (.cells #[.int .u8 (p.b : Nat), .int .i64 (p.l : Nat), .int .i64 (p.d : Nat)] 159)
    have hsA : Wrt k wr v1 (wr.alloc (.cells #[.int .u8 (p.b : Nat), .int .i64 (p.l : Nat), .int .i64 (p.d : Nat)] 159)) v1 := (Wrt.refl _ _ _).alloc _
    rw [hl0] at hP1 hsA
    have hskA : Sk (wr.alloc (.cells #[.int .u8 (p.b : Nat), .int .i64 ((0 : Nat) : Int), .int .i64 (p.d : Nat)] 159)) k base v1 (bs ++ bits) := (unhide HSK).step0 ((Step.refl _ _).alloc _)
    have HC := hide (bookWrite_ok k base b1 0 L1.length L1.length p.b (Go.Bel.keyOf L1 p.b) (L1[p.b]?.getD 0) v1 (bs ++ bits) _ hskA (((unhide HWS).wrt hsA).bk1.cell hcode) hcode.lt hcode.lo hcode.hi hcode.le (by rw [List.length_append]; omega) (by rw [World.size_alloc]; omega))
    have HSA := hide hsA
    have hcl := hcode.le
    clear hP1 hskA hsA hcode
    go_wp2_with fail
    refine (unhide HC).mono ?_
    rintro e w2 ⟨rfl, v2, hk2, hw2⟩
    have HF := hide (show Sk w2 k base v2 (bs ++ (bits ++ codeB L1 p.b)) ∧ PcsBits L1 L2 (ps.take (i + 1)) (bits ++ codeB L1 p.b) ∧ Wrt k w0 v w2 v2 from ⟨by rw [← List.append_assoc]; exact hk2, by
     rw [List.take_add_one, unhide HP]; exact (unhide HB).snoc (.inl ⟨hl0, rfl⟩), ((unhide HWR).trans (unhide HSA)).trans hw2⟩)
    clear hk2 hw2 HC HSA
    go_wp2_with fail
    go_roundg (gk - 1)
    case measure => omega
    case rel => exact ⟨i + 1, v2, bits ++ codeB L1 p.b, by go_num, by omega, (unhide HF).1, (unhide HF).2.1, by rw [List.length_append, codeB_length]; omega, (unhide HF).2.2⟩
   ·have hl0' : ((p.l : Int) == 0) = false := beq_eq_false_iff_ne.2 (by omega)
    have hbox := (unhide HWS).box
    obtain ⟨x0, x1, -, -⟩ := blk_two hbox
    clear hbox
    have hXr : X < wr.heap.size := by omega
    have hMW : ∀ (w2 : World) (s x m : Nat), Step (fun _ => False) (wr.alloc (.cells #[.int .u8 (p.b : Nat), .int .i64 (p.l : Nat), .int .i64 (p.d : Nat)] 159)) w2 → LenM p.l s x m →
      w2.cell? ⟨X, 0, none⟩ = some (.slice (some ⟨b1, 0, none⟩) L1.length L1.length) ∧ Calls Tryz.prog 129 #[.agg #[.int .i64 (s : Nat), .int .i64 (x : Nat), .int .i64 (m : Nat)], .pointer (some ⟨k, 0, none⟩), .slice (some ⟨b1, 0, none⟩) L1.length L1.length] w2
      fun e wc => e = .returned (.tuple #[]) ∧ ∃ v2 : Value, Sk wc k base v2 (bs ++ bits ++ codeB L1 s ++ numBits x m) ∧ Wrt k wr v1 wc v2 ∧ wc.heap[wr.heap.size]? = some (.cells #[.int .u8 (p.b : Nat), .int .i64 (p.l : Nat), .int .i64 (p.d : Nat)] 159 (0, 0)) := by
     intro w2 s x m hst hM
     have hsA : Wrt k wr v1 w2 v1 := ((Wrt.refl _ _ _).alloc _).step0 hst
     have hws := (unhide HWS).wrt hsA
     have hcode := hcl s x m hM
     have hbd := hM.bd
     have hP := hst.at_ (heap_alloc_new wr (.cells #[.int .u8 (p.b : Nat), .int .i64 (p.l : Nat), .int .i64 (p.d : Nat)] 159)) (fun x => x)
     have hsz := hsA.step.size
     have hsA0 : Step (fun _ => False) wr w2 := ((Step.refl _ _).alloc _).trans hst
     refine ⟨(blk_two hws.box).1, (markWrite_ok k base b1 0 L1.length L1.length s (Go.Bel.keyOf L1 s) (L1[s]?.getD 0) x m v1 (bs ++ bits) w2 ((unhide HSK).step0 hsA0) (hws.bk1.cell hcode) hcode.lt hcode.lo hcode.hi hcode.le (pow_lt_mil hbd.1 (by omega)) (by omega) (by rw [List.length_append]; omega) (by omega)).mono ?_⟩
     rintro e wc ⟨rfl, v2, hk2, hw2⟩
     exact ⟨rfl, v2, hk2, hsA.trans hw2, hw2.step.at_ hP (fun y => y.elim ((unhide HSK).off (Nat.le_refl _)).1 ((unhide HSK).off (Nat.le_refl _)).2)⟩
    have HMW := hide hMW
    clear hMW
    go_wp2_with fail
    go_cut [7, 10] (fun p7 i10 wc => p7 = .pointer (some ⟨wr.heap.size, 0, none⟩) ∧ i10 = .int .i64 (i : Nat) ∧ ∃ (v2 : Value) (s x m : Nat), LenM p.l s x m ∧ Sk wc k base v2 (bs ++ bits ++ codeB L1 s ++ numBits x m) ∧ Wrt k wr v1 wc v2 ∧ wc.heap[wr.heap.size]? = some (.cells #[.int .u8 (p.b : Nat), .int .i64 (p.l : Nat), .int .i64 (p.d : Nat)] 159 (0, 0)))
    case first =>
     go_region_with (first
      | (go_at_call 128; refine (lengthMark_ok p.l _ hl3 hl258).mono ?_; rintro e w2 ⟨s, x, m, rfl, hM, hst⟩; obtain ⟨y0, HC⟩ := unhide HMW w2 s x m (((Step.refl _ _).drew).trans hst) hM; have HC2 := hide HC; clear HC hst)
      | (go_at_call 129; refine (unhide HC2).mono ?_; rintro e w3 ⟨rfl, HF⟩; have HF2 := hide HF; clear HF))
     all_goals go_wp2_with fail
     all_goals go_meet
     all_goals (obtain ⟨v2, hF⟩ := unhide HF2; exact ⟨rfl, rfl, v2, s, x, m, hM, hF⟩)
    case rest =>
     obtain ⟨rfl, rfl, v2, s, x, m, hM, hk2, hw2, hP2⟩ := hcut
     have hws2 := (unhide HWS).wrt hw2
     obtain ⟨z0, z1, -, -⟩ := blk_two hws2.box
     obtain ⟨q0, q1, -, -, q2, -⟩ := blk_three hP2
     have hbd1 := hM.bd
     have hzc := hw2.step.size
     have hle1 := (hcl s x m hM).le
     have hMW : ∀ (w2 : World) (s2 x2 m2 : Nat), Step (fun _ => False) wc w2 → DistM p.d s2 x2 m2 →
       w2.cell? ⟨X, 1, none⟩ = some (.slice (some ⟨b2, 0, none⟩) L2.length L2.length) ∧ Calls Tryz.prog 129 #[.agg #[.int .i64 (s2 : Nat), .int .i64 (x2 : Nat), .int .i64 (m2 : Nat)], .pointer (some ⟨k, 0, none⟩), .slice (some ⟨b2, 0, none⟩) L2.length L2.length] w2
       fun e w4 => e = .returned (.tuple #[]) ∧ ∃ (v3 : Value) (bits2 : List Bool), Sk w4 k base v3 (bs ++ bits2) ∧ PcsBits L1 L2 (ps.take (i + 1)) bits2 ∧ bits2.length ≤ 48 * (i + 1) ∧ Wrt k w0 v w4 v3 := by
      intro w2 s2 x2 m2 hst hM2
      have hsA : Wrt k wc v2 w2 v2 := (Wrt.refl _ _ _).step0 hst
      have hws := hws2.wrt hsA
      have hcode := hcd s2 x2 m2 hM2
      have hbd := hM2.bd
      have hle2 := hcode.le
      have hsz := hsA.step.size
      refine ⟨(blk_two hws.box).2.1, (markWrite_ok k base b2 0 L2.length L2.length s2 (Go.Bel.keyOf L2 s2) (L2[s2]?.getD 0) x2 m2 v2 _ w2 (hk2.step0 hst) (hws.bk2.cell hcode) hcode.lt hcode.lo hcode.hi hcode.le (pow_lt_mil hbd.1 (by omega)) (by omega) (by simp only [List.length_append, codeB_length, numBits_length]; omega) (by omega)).mono ?_⟩
      rintro e w4 ⟨rfl, v3, hk3, hw3⟩
      refine ⟨rfl, v3, bits ++ (codeB L1 s ++ numBits x m ++ codeB L2 s2 ++ numBits x2 m2), ?_, ?_, ?_, (((unhide HWR).trans hw2).trans hsA).trans hw3⟩
      ·have e : bs ++ (bits ++ (codeB L1 s ++ numBits x m ++ codeB L2 s2 ++ numBits x2 m2)) = bs ++ bits ++ codeB L1 s ++ numBits x m ++ codeBits (Go.Bel.keyOf L2 s2 - 2 ^ (L2[s2]?.getD 0)) (L2[s2]?.getD 0) ++ numBits x2 m2 := by
        simp only [List.append_assoc]; rfl
       rw [e]; exact hk3
      ·rw [List.take_add_one, unhide HP]
       exact (unhide HB).snoc (.inr ⟨by omega, s, x, m, s2, x2, m2, hM, hM2, rfl⟩)
      ·simp only [List.length_append, codeB_length, numBits_length]; omega
     have HMW := hide hMW
     clear hMW hws2 hk2 hw2 hP2
     go_wp2_with fail
     go_region_with (first
      | (go_at_call 130; refine (distanceMark_ok p.d _ hd1 hd2).mono ?_; rintro e w2 ⟨s2, x2, m2, rfl, hM2, hst⟩; obtain ⟨y0, HC⟩ := unhide HMW w2 s2 x2 m2 (((Step.refl _ _).drew).trans hst) hM2; have HC2 := hide HC; clear HC hst)
      | (go_at_call 129; refine (unhide HC2).mono ?_; rintro e w3 ⟨rfl, HF⟩; have HF2 := hide HF; clear HF))
     all_goals go_wp2_with fail
     all_goals (go_roundg (gk - 1))
     all_goals first
      | omega
      | (obtain ⟨v3, bits2, h1, h2, h3, h4⟩ := unhide HF2; exact ⟨i + 1, v3, bits2, by go_num, by omega, h1, h2, h3, h4⟩)
  ·have hi' : ¬ (i : Int) < (ps.length : Int) := by omega
   have hwrs := (unhide HW0).wrt hwr
   obtain ⟨x0, x1, -, -⟩ := blk_two hwrs.box
   have HC := hide (bookWrite_ok k base b1 0 L1.length L1.length 256 (Go.Bel.keyOf L1 256) (L1[256]?.getD 0) v1 (bs ++ bits) wr hsk (hwrs.bk1.cell h256) h256.lt h256.lo h256.hi h256.le (by rw [List.length_append]; omega) (by omega))
   have hii : i = ps.length := by omega
   rw [List.take_of_length_le (by omega)] at hbits
   have HB := hide hbits
   have HWR := hide hwr
   clear hsk hbits hwr hwrs hii
   go_wp2_with fail
   refine (unhide HC).mono ?_
   rintro e w2 ⟨rfl, v2, hk2, hw2⟩
   have HF := hide (And.intro hk2 hw2)
   clear hk2 hw2 HC
   go_wp2_with fail
   go_end0
   exact ⟨rfl, v2, bits, (unhide HF).1, unhide HB, by omega, (unhide HR0).trans ((unhide HWR).trans (unhide HF).2)⟩
theorem writePieces_nil (k base b1 b2 cap : Nat) (a : Option Addr) (v : Value) (bs : List Bool) (L1 L2 : List Nat) (w : World) (h : Sk w k base v bs) (hb1 : BookAt w b1 L1)
  (h256 : HasCode L1 256) (hl : bs.length < 60000000000000) (hbase : base ≤ w.heap.size) :
  Calls Tryz.prog 100 #[.pointer (some ⟨k, 0, none⟩), .slice a 0 cap, .agg #[.slice (some ⟨b1, 0, none⟩) L1.length L1.length, .slice (some ⟨b2, 0, none⟩) L2.length L2.length]] w
   fun e w' => e = .returned (.tuple #[]) ∧ ∃ v', Sk w' k base v' (bs ++ codeB L1 256) ∧ Wrt k w v w' v' := by
 go_enter Tryz.func100, Tryz.ntmps100
 go_wp2_with fail
 obtain ⟨X, hX⟩ : ∃ X, X = w.heap.size := ⟨_, rfl⟩
 obtain ⟨w0, hw0⟩ : ∃ w0, w0 = w.alloc (.cells #[.slice (some ⟨b1, 0, none⟩) L1.length L1.length, .slice (some ⟨b2, 0, none⟩) L2.length L2.length] 152) := ⟨_, rfl⟩
 have hs0 : Step (fun _ => False) w w0 := by rw [hw0]; exact (Step.refl _ _).alloc _
 have hbox : w0.heap[X]? = some (.cells #[.slice (some ⟨b1, 0, none⟩) L1.length L1.length, .slice (some ⟨b2, 0, none⟩) L2.length L2.length] 152 (0, 0)) := by rw [hw0, hX]; exact heap_alloc_new _ _
 obtain ⟨x0, x1, -, -⟩ := blk_two hbox
 have hz0 := hs0.size
 have HC := hide (bookWrite_ok k base b1 0 L1.length L1.length 256 (Go.Bel.keyOf L1 256) (L1[256]?.getD 0) v bs w0 (h.step0 hs0) (BookAt.cell (hs0.at_ hb1 (fun x => x)) h256) h256.lt h256.lo h256.hi h256.le (by omega) (by omega))
 have HR0 := hide (⟨hs0.mono (fun _ y => y.elim), fun _ y => .inl y⟩ : Wrt k w v w0 v)
 rw [← hX, ← hw0]
 clear hX hw0 hb1 hbox hs0 h
 go_loopg [10] 1 (fun _ u10 wr => u10 = .int .i64 0 ∧ wr = w0)
 case atStart => exact ⟨rfl, rfl⟩
 case round =>
  obtain ⟨rfl, rfl⟩ := hrel
  go_wp2_with fail
  refine (unhide HC).mono ?_
  rintro e w2 ⟨rfl, v2, hk2, hw2⟩
  have HF := hide (And.intro hk2 hw2)
  clear hk2 hw2 HC
  go_wp2_with fail
  go_end0
  exact ⟨rfl, v2, (unhide HF).1, (unhide HR0).trans (unhide HF).2⟩
theorem pcCells_at (ps : List Pc) (i : Nat) (p : Pc) (h : ps[i]? = some p) : (pcCells ps)[i * 3]? = some (.int .u8 (p.b : Nat)) ∧ (pcCells ps)[i * 3 + 1]? = some (.int .i64 (p.l : Nat)) ∧ (pcCells ps)[i * 3 + 2]? = some (.int .i64 (p.d : Nat)) := by
 induction ps generalizing i with
 | nil => simp at h
 | cons x ps ih =>
  cases i with
  | zero =>
   simp only [List.getElem?_cons_zero, Option.some.injEq] at h
   subst h
   exact ⟨rfl, rfl, rfl⟩
  | succ i =>
   rw [List.getElem?_cons_succ] at h
   have := ih i h
   rw [pcCells]
   have hl : x.cells.toList.length = 3 := rfl
   refine ⟨?_, ?_, ?_⟩
   ·rw [List.getElem?_append_right (by omega), hl, show (i + 1) * 3 - 3 = i * 3 by omega]; exact this.1
   ·rw [List.getElem?_append_right (by omega), hl, show (i + 1) * 3 + 1 - 3 = i * 3 + 1 by omega]; exact this.2.1
   ·rw [List.getElem?_append_right (by omega), hl, show (i + 1) * 3 + 2 - 3 = i * 3 + 2 by omega]; exact this.2.2
end Go.Proofs.YtbpahojchgpdnaaGreatDoor
