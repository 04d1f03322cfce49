/- Proved here: the piece that the finder's next answers. -/
import Derived.Test.YtbpahojchgpdnaaGreatDoorCpCopy
import Derived.Test.YtbpahojchgpdnaaGreatDoorSlices
import Derived.Test.YtbpahojchgpdnaaGreatDoorSinks
set_option maxRecDepth 20000
set_option maxHeartbeats 4000000
namespace Go.Proofs.YtbpahojchgpdnaaGreatDoor
open Go.RowKit Go.Bel
structure NextP (w w' : World) (F j off cap gl ga q : Nat) (ys : List Nat) (p : Pc) : Prop where
 ok : NextIs ys q p
 ex : ∃ n' L' A', n' ≤ q + max 1 p.l ∧ FAt w' F j off cap gl ga ys n' L' A'
 st : Step (FS F gl ga) w w'
theorem nextEnd {w w1 : World} {F j off cap gl ga q n' : Nat} {ys : List Nat} {L A : Nat → Int} {p : Pc} (hok : NextIs ys q p) (hn : n' ≤ q + max 1 p.l) (hf : FAt w1 F j off cap gl ga ys n' L A) (hs : Step (FS F gl ga) w w1) (hlt : F < w.heap.size ∧ gl < w.heap.size ∧ ga < w.heap.size ∧ j < w.heap.size) (u v x : Value) :
  NextP w (((w1.setCell ⟨w.heap.size, 0, none⟩ u).setCell ⟨w.heap.size, 1, none⟩ v).setCell ⟨w.heap.size, 2, none⟩ x) F j off cap gl ga q ys p := by
 have h1 : Step (· = w.heap.size) w1 (((w1.setCell ⟨w.heap.size, 0, none⟩ u).setCell ⟨w.heap.size, 1, none⟩ v).setCell ⟨w.heap.size, 2, none⟩ x) :=
  (((Step.refl (· = w.heap.size) w1).setCell (p := ⟨w.heap.size, 0, none⟩) rfl _).setCell (p := ⟨w.heap.size, 1, none⟩) rfl _).setCell (p := ⟨w.heap.size, 2, none⟩) rfl _
 exact ⟨hok, ⟨n', L, A, hn, hf.step h1 ⟨by omega, by omega, by omega, by omega⟩⟩, hs.trans' h1 (fun i hi y => by omega)⟩
theorem NextP.alloc {w w1 : World} {F j off cap gl ga q : Nat} {ys : List Nat} {p : Pc} (h : NextP w w1 F j off cap gl ga q ys p) (o : Obj) : NextP w (w1.alloc o) F j off cap gl ga q ys p := by
 obtain ⟨n', L, A, hn, hf⟩ := h.ex
 exact ⟨h.ok, ⟨n', L, A, hn, hf.step0 ((Step.refl _ _).alloc o)⟩, h.st.alloc o⟩
theorem next_ok (F j off cap gl ga noted q : Nat) (ys : List Nat) (L A : Nat → Int) (w : World) (h : FAt w F j off cap gl ga ys noted L A) (hn : noted ≤ q) (hq : q < ys.length) :
  Calls Tryz.prog 104 #[.pointer (some ⟨F, 0, none⟩), .int .i64 (q : Nat)] w fun e w' => ∃ p : Pc, e = .returned (.agg p.cells) ∧ NextP w w' F j off cap gl ga q ys p := by
 have hFl := lt_of_block h.blk
 have hgl := h.last.lt
 have hga := h.ahead.lt
 have hj : j < w.heap.size := World.block_lt_of_cell? w _ (h.lies q hq)
 go_enter Tryz.func104, Tryz.ntmps104
 go_wp2_with fail
 obtain ⟨w0, hw0⟩ : ∃ w0, w0 = w.alloc (.cells #[.int .u8 0, .int .i64 0, .int .i64 0] 159) := ⟨_, rfl⟩
 have hs0 : Step (fun _ => False) w w0 := by rw [hw0]; exact (Step.refl _ _).alloc _
 have hr0 : w0.heap[w.heap.size]? = some (.cells #[.int .u8 0, .int .i64 0, .int .i64 0] 159 (0, 0)) := by rw [hw0]; exact heap_alloc_new _ _
 rw [← hw0]
 clear hw0
 refine (copyAt_ok F j off cap gl ga noted q ys L A w0 (h.step0 hs0) hn hq).mono ?_
 rintro e w1 ⟨p1, L1, A1, rfl, hp1, hf1, hs1⟩
 have hr1 := hs1.at_ hr0 (fun y => by rcases y with y | y | y <;> omega)
 have hz1 := lt_of_block hr1
 obtain ⟨r0, r1, rf0, rf1, r2, rf2⟩ := blk_three hr1
 have HR1 := hide hr1
 have HF1 := hide hf1
 have HS1 := hide ((hs0.mono (S' := FS F gl ga) (fun _ y => y.elim)).trans hs1)
 have HP1 := hide hp1
 have hfew := h.few
 unfold Pc.cells
 clear h hs0 hr0 hs1 hr1 hf1 hp1
 by_cases h0 : p1.l = 0 ∨ 32 ≤ p1.l
 ·have h0' : ((p1.l : Int) == 0) = true ∨ (((p1.l : Int) == 0) = false ∧ (p1.l : Int) ≥ 32) := by
   by_cases y : p1.l = 0
   ·exact .inl (beq_iff_eq.2 (by omega))
   ·exact .inr ⟨beq_eq_false_iff_ne.2 (by omega), by omega⟩
  have hmax : q ≤ q + max 1 p1.l := by omega
  have HN1 := hide (show NextIs ys q p1 from ⟨(unhide HP1).ok, by rw [nextF, ← (unhide HP1).is_, if_pos h0], (unhide HP1).pays⟩)
  clear h0
  rcases h0' with h0' | ⟨h0', h1'⟩
  all_goals go_wp2_with fail
  all_goals refine bodyPost_ret (v := .agg p1.cells) (by simp [results, Tryz.results104, go_sem, r0, r1, r2, hz1, Pc.cells]) rfl ⟨p1, rfl, ?_⟩
  all_goals exact (nextEnd (unhide HN1) hmax (unhide HF1) (unhide HS1) ⟨hFl, hgl, hga, hj⟩ _ _ _).alloc _
 ·have h0' : ((p1.l : Int) == 0) = false := beq_eq_false_iff_ne.2 (by omega)
  have h1' : ¬ (p1.l : Int) ≥ 32 := by omega
  have h3 : 3 ≤ p1.l ∧ q + p1.l ≤ ys.length := by
   rcases (unhide HP1).ok with y | y
   ·omega
   ·exact ⟨y.1, y.2.2.1⟩
  have HH0 := hide h0
  clear h0
  go_wp2_with fail
  obtain ⟨w2, hw2⟩ : ∃ w2, w2 = w1.alloc (.cells #[.int .u8 (p1.b : Nat), .int .i64 (p1.l : Nat), .int .i64 (p1.d : Nat)] 159) := ⟨_, rfl⟩
  have hs2 : Step (fun _ => False) w1 w2 := by rw [hw2]; exact (Step.refl _ _).alloc _
  have hr2 : w2.heap[w1.heap.size]? = some (.cells #[.int .u8 (p1.b : Nat), .int .i64 (p1.l : Nat), .int .i64 (p1.d : Nat)] 159 (0, 0)) := by rw [hw2]; exact heap_alloc_new _ _
  rw [← hw2]
  have t1 : w2.cell? ⟨w1.heap.size, 1, none⟩ = some (.int .i64 (p1.l : Nat)) := blk_cell hr2 1 _ rfl
  obtain ⟨q1, hq1⟩ : ∃ q1, q1 = q + 1 := ⟨_, rfl⟩
  have hqi : (q : Int) + 1 = (q1 : Int) := by omega
  have hqw : IntKind.i64.wrap (q1 : Int) = (q1 : Int) := by rw [IntKind.wrap_i64]; omega
  have hqq : q ≤ q1 := by omega
  have hqy : q1 < ys.length := by omega
  have HF2 := hide (((unhide HF1).step0 hs2).step0 (w' := w2.drew) ((Step.refl (fun _ => False) w2).drew))
  have t1d : w2.drew.cell? ⟨w1.heap.size, 1, none⟩ = some (.int .i64 (p1.l : Nat)) := t1
  have HS2 := hide hs2
  have HR2 := hide hr2
  have HQ1 := hide hq1
  have hfd : ∀ (u v x : Value) (w : World), (Instr.field 159 (.agg #[u, v, x]) 1).run Tryz.prog w = .ok v w := fun _ _ _ _ => by kernel_rfl
  have hnF : ¬ FS F gl ga w1.heap.size := fun y => by rcases y with y | y | y <;> omega
  clear hw2 hs2 hr2 hq1 r0 r1 r2 rf0 rf1 rf2
  go_region_with (go_at_call 134; refine (copyAt_ok F j off cap gl ga q q1 ys L1 A1 w2.drew (unhide HF2) hqq hqy).mono ?_; rintro e w3 ⟨p2, L2, A2, rfl, hp2, hf2, hs3⟩; have t1' := hs3.cell (p := ⟨w1.heap.size, 1, none⟩) t1d hnF; unfold Pc.cells)
  all_goals (
   have hs3' : Step (FS F gl ga) w2 w3 := ((Step.refl _ w2).drew).trans hs3
   have hnR : ¬ FS F gl ga w.heap.size := fun y => by rcases y with y | y | y <;> omega
   have hS3 := hs3'.at_ (unhide HR2) hnF
   have hR3 := hs3'.at_ ((unhide HS2).at_ (unhide HR1) (fun y => y)) hnR
   have hst3 : Step (FS F gl ga) w w3 := ((unhide HS1).trans ((unhide HS2).mono (fun _ y => y.elim))).trans hs3'
   obtain ⟨r0, r1, rf0, rf1, r2, rf2⟩ := blk_three hR3
   obtain ⟨s0, s1, sf0, sf1, s2, sf2⟩ := blk_three hS3
   have hSR : ¬ w1.heap.size = w.heap.size := by omega
   have hRS : ¬ w.heap.size = w1.heap.size := by omega
   have HF3 := hide hf2
   have HST3 := hide hst3
   have hgtd := Nat.lt_or_ge p1.l p2.l
   have HP2 := hide hp2
   clear hs3' hR3 hS3 hst3 hs3 hp2
   rcases hgtd with hgt | hgt
   ·have hgt' : (p2.l : Int) > (p1.l : Int) := by omega
    have x2 : w3.cell? ⟨F, 0, none⟩ = some (.slice (some ⟨j, off, none⟩) ys.length cap) := blk_cell hf2.blk 0 _ rfl
    have x3 := hf2.lies q hq
    obtain ⟨v, hv⟩ : ∃ v, v = ys[q]?.getD 0 := ⟨_, rfl⟩
    rw [← hv] at x3
    have HV := hide hv
    have i0 : (0 : Int) ≤ (q : Int) := by omega
    have i1 : (q : Int) < (ys.length : Int) := by omega
    clear hf2 hv
    go_wp2_with fail
    refine bodyPost_ret (v := .agg (Pc.cells ⟨v, 0, 0⟩)) (by simp [results, Tryz.results104, go_sem, r0, r1, r2, Pc.cells]) rfl ⟨⟨v, 0, 0⟩, rfl, ?_⟩
    exact nextEnd ⟨.inl ⟨rfl, unhide HV⟩, by rw [nextF, ← (unhide HP1).is_, if_neg (unhide HH0), ← unhide HQ1, ← (unhide HP2).is_, if_pos hgt, unhide HV], fun y => absurd rfl y⟩ (by have := unhide HQ1; dsimp only; omega) (unhide HF3) (unhide HST3) ⟨hFl, hgl, hga, hj⟩ _ _ _
   ·have hgt' : ¬ (p2.l : Int) > (p1.l : Int) := by omega
    clear hf2
    go_wp2_with fail
    refine bodyPost_ret (v := .agg p1.cells) (by simp [results, Tryz.results104, go_sem, r0, r1, r2, Pc.cells]) rfl ⟨p1, rfl, ?_⟩
    exact nextEnd ⟨(unhide HP1).ok, by rw [nextF, ← (unhide HP1).is_, if_neg (unhide HH0), ← unhide HQ1, ← (unhide HP2).is_, if_neg (by omega)], (unhide HP1).pays⟩ (by have := unhide HQ1; omega) (unhide HF3) (unhide HST3) ⟨hFl, hgl, hga, hj⟩ _ _ _)
end Go.Proofs.YtbpahojchgpdnaaGreatDoor
namespace Go.Proofs.YtbpahojchgpdnaaGreatDoor
open Go.RowKit Go.Bel Go.Maps
theorem mul64_far (b : Nat) (w : World) (hb : b < 10000000) :
  Calls Tryz.prog 180 #[.int .u64 1, .int .u64 (b : Nat)] w fun e w' => e = .returned (.tuple #[.int .u64 0, .int .u64 (b : Nat)]) ∧ w' = w := by
 have m1 := and_mask b (by omega)
 have m2 : bits .and .u64 (1 : Int) 4294967295 = 1 := by decide
 have m3 : bits .and .u64 (0 : Int) 4294967295 = 0 := by decide
 have d1 : (b : Int) / 4294967296 = 0 := by omega
 have d2 : (b : Int) / 2 ^ 32 = 0 := by omega
 go_enter Tryz.func180, Tryz.ntmps180
 go_wp2
 go_ret2
 exact ⟨rfl, rfl⟩
theorem mul_far (b : Nat) (w : World) (hb : b < 10000000) :
  Calls Tryz.prog 159 #[.int .u64 1, .int .u64 (b : Nat)] w fun e w' => e = .returned (.tuple #[.int .u64 0, .int .u64 (b : Nat)]) ∧ w' = w := by
 go_enter Tryz.func159, Tryz.ntmps159
 go_wp2_with (go_at_call 180; refine (mul64_far b _ hb).mono ?_; rintro e w' ⟨rfl, rfl⟩)
 go_ret2
 exact ⟨rfl, rfl⟩
abbrev di (c : Int) (n : Nat) : List Value := List.replicate n (.int .i64 c)
theorem splice_di (c : Int) (bp n m : Nat) (_h : bp + m ≤ n) : splice (di c bp ++ di 0 (n - bp)) bp (di c m) = di c (bp + m) ++ di 0 (n - (bp + m)) := by
 unfold splice
 rw [List.take_append_of_le_length (by simp), List.take_of_length_le (by simp), List.length_replicate, List.drop_append, List.drop_of_length_le (by simp), List.length_replicate, List.nil_append, List.drop_replicate, ← List.append_assoc, List.replicate_append_replicate]
 congr 2
 simp
 omega
theorem di_cell {w : World} {g bp n : Nat} {c : Int} (h : w.heap[g]? = some (.cells (di c bp ++ di 0 (n - bp)).toArray 3 (0, 0))) (_hb : bp ≤ n) (j : Nat) (hj : j < bp) : w.cell? ⟨g, j, none⟩ = some (.int .i64 c) := by
 refine blk_cell h j _ ?_
 rw [List.getElem?_toArray, List.getElem?_append_left (by simp; exact hj), List.getElem?_replicate, if_pos hj]
theorem made_di {w : World} {base g n : Nat} (h : w.ownsRow base 3 1 (.slice (some ⟨g, 0, none⟩) n n) n (madeCells (Value.int .i64 0).cells (n * 1)).toList) : w.heap[g]? = some (.cells (di 0 0 ++ di 0 (n - 0)).toArray 3 (0, 0)) := by
 rw [full_block h]
 have e : (madeCells (Value.int .i64 0).cells (n * 1)).toList = List.replicate n (.int .i64 0) := by rw [Nat.mul_one]; exact toList_madeCells_one _ _
 rw [e]
 simp [di]
theorem repeat_far (k : Nat) (c : Int) (n cap : Nat) (w : World) (hx : w.cell? ⟨k, 0, none⟩ = some (.int .i64 c)) (hn1 : 1 ≤ n) (hn : n ≤ 40000) (_hcap : 1 ≤ cap) :
  Calls Tryz.prog 133 #[.slice (some ⟨k, 0, none⟩) 1 cap, .int .i64 (n : Nat)] w
   fun e w' => ∃ g, e = .returned (.slice (some ⟨g, 0, none⟩) n n) ∧ w.heap.size ≤ g ∧ w'.heap[g]? = some (.cells (di c n).toArray 3 (0, 0)) ∧ Below w.heap.size w w' := by
 obtain ⟨i0, hi, hz0, hz1, hz2⟩ := info_parts Tryz.info3
 have hkl := World.block_lt_of_cell? w _ hx
 obtain ⟨G, hG⟩ : ∃ G, G = w.heap.size := ⟨_, rfl⟩
 have HG := hide hG
 go_enter Tryz.func133, Tryz.ntmps133
 go_wp2_with (first
  | (go_at_call 159; refine (mul_far n _ (by omega)).mono ?_; rintro e w' ⟨rfl, hw'⟩; rw [hw']; clear hw' w')
  | (at_make; refine wpList_make_full _ rfl _ _ 57 rfl w.heap.size 3 i0 (.int .i64 0) 1 Tryz.underlying57 hi hz0 hz1 .i64 .i64 _ _ n rfl rfl rfl rfl (by rw [hz2]; omega) (by unfold maxLen; omega) (Nat.le_refl _) ?_; intro w1 hown1 hgr1; have hblk := made_di hown1; have hbel := (Below.refl w.heap.size w).grown hgr1 (Nat.le_refl _) (fun k hk => by cases hk); have hx1 := (hbel.cell (p := ⟨k, 0, none⟩) hkl).trans hx; have HBLK := hide hblk; have HBEL := hide hbel; clear hown1 hgr1 hblk hbel)
  | (refine wpList_copy_splice rfl (.tmp 31) (.tmp 32) 57 57 rfl 3 Tryz.underlying57 sizeI _ _ n n 1 cap rfl rfl w.heap.size 0 (di 0 0 ++ di 0 (n - 0)) 3 (unhide HBLK) (di c 1) ?s1 ?s2 ?s3 ?s4 w.heap.size w (unhide HBEL) (Nat.le_refl _) ?_; rotate_right; intro w2 hb2 hbel2))
 case s1 => simp only [List.length_replicate]; exact (Nat.min_eq_left hn1).symm
 case s2 =>
  intro j v hj
  match j, hj with
  | 0, hj => simp at hj; subst hj; exact hx1
 case s3 => simp; omega
 case s4 => intro v hv; simp at hv; subst hv; rfl
 rw [show di 0 0 = di c 0 from rfl, splice_di c 0 n 1 (by omega), Nat.zero_add] at hb2
 have HB2 := hide (unhide hb2)
 clear hb2 HBLK HBEL hx1 hx
 go_loopw [8] (fun bp wr => ∃ j : Nat, 1 ≤ j ∧ j ≤ n ∧ bp = .int .i64 (j : Nat) ∧ wr.heap[w.heap.size]? = some (.cells (di c j ++ di 0 (n - j)).toArray 3 (0, 0)) ∧ Below w.heap.size w wr) (fun bp _ => n - (intOf bp).toNat)
 case atStart => exact ⟨1, by omega, hn1, rfl, unhide HB2, hbel2⟩
 case round =>
  clear HB2 hbel2
  obtain ⟨j, hj1, hjn, rfl, hblk, hbel⟩ := hrel
  by_cases hlt : j < n
  ·obtain ⟨m, hm⟩ : ∃ m, m = Nat.min j (n - j) := ⟨_, rfl⟩
   have hmj : m ≤ j := by rw [hm]; exact Nat.min_le_left _ _
   have hmn0 : m ≤ n - j := by rw [hm]; exact Nat.min_le_right _ _
   have hmn : j + m ≤ n := by clear hm; omega
   have hwj : IntKind.i64.wrap ((j : Int) + (m : Int)) = (j : Int) + (m : Int) := by clear hm; rw [IntKind.wrap_i64]; omega
   have hm1 : 1 ≤ m := by rw [hm]; exact Nat.le_min.2 ⟨hj1, by omega⟩
   have hne : ¬ n = j := by omega
   have hji : (j : Int) ≤ (n : Int) := by omega
   have hj0 : (0 : Int) ≤ (j : Int) := by omega
   have hs5 : (di c m).length = Nat.min j (n - j) := by rw [List.length_replicate]; exact hm
   have hs6 : 0 < (di c m).length → ∃ ad, (some ⟨w.heap.size, 0, none⟩ : Option Addr) = some ad ∧ ∀ i v, (di c m)[i]? = some v → wr.drew.cell? (ad.add i) = some v := by
    intro _
    refine ⟨_, rfl, ?_⟩
    intro i v hv
    rw [List.getElem?_replicate] at hv
    split at hv
    ·injection hv with hv
     subst hv
     have := di_cell hblk hjn i (by omega)
     rw [show (Addr.add ⟨w.heap.size, 0, none⟩ i) = ⟨w.heap.size, i, none⟩ by simp [Addr.add]; omega]
     exact this
    ·cases hv
   have hs7 : j + (di c m).length ≤ (di c j ++ di 0 (n - j)).length := by simp only [List.length_append, List.length_replicate]; omega
   have hs8 : ∀ v ∈ di c m, v.oneCell' = true := by intro v hv; rw [List.eq_of_mem_replicate hv]; rfl
   have HM := hide hm
   have HBLK := hide hblk
   have HBEL := hide hbel
   have H5 := hide hs5
   have H6 := hide hs6
   have H7 := hide hs7
   have H8 := hide hs8
   clear hm hblk hbel hs5 hs6 hs7 hs8
   go_wp2_with fail
   go_region_law (refine step_copy_splice rfl (.tmp 41) (.tmp 44) 57 57 rfl 3 Tryz.underlying57 sizeI (some ⟨w.heap.size, j, none⟩) (some ⟨w.heap.size, 0, none⟩) (n - j) (n - j) j n (by simp [Act.eval, Act.put]) (by simp [Act.eval, Act.put]) w.heap.size j (di c j ++ di 0 (n - j)) 3 (unhide HBLK) (di c m) (unhide H5) (fun h => ⟨rfl, unhide H6 h⟩) (unhide H7) (unhide H8) w.heap.size w (unhide HBEL).drew (Nat.le_refl _) ?_; intro w3 hb3 hbel3; rw [show (di c m).length = m from List.length_replicate])
   go_simp
   go_roundw
   case rel =>
    refine ⟨_, _, _, _, _, _, _, _, _, _, _, _, _, _, ⟨j + m, by omega, hmn, ?ga, ?gb, hbel3⟩, rfl⟩
    case ga => go_num
    have := unhide hb3
    rw [splice_di c j n m hmn] at this
    exact this
   case measure => simp [intOf]; omega
  ·obtain rfl : j = n := by omega
   have hbe : wr.heap[w.heap.size]? = some (.cells (di c j).toArray 3 (0, 0)) := by
    rw [hblk, Nat.sub_self]
    simp [di]
   have HB := hide hbe
   have HBEL := hide hbel
   clear hbe hblk hbel
   go_wp2_with fail
   go_ret
   exact ⟨_, rfl, Nat.le_refl _, unhide HB, unhide HBEL⟩
end Go.Proofs.YtbpahojchgpdnaaGreatDoor
namespace Go.Proofs.YtbpahojchgpdnaaGreatDoor
open Go.RowKit Go.Bel Go.Maps
theorem rowAt_di {w : World} {g n : Nat} {c : Int} (h : w.heap[g]? = some (.cells (di c n).toArray 3 (0, 0))) : RowAt w g 3 n (fun _ => .int .i64 c) :=
 ⟨_, h, by simp, fun i hi => by rw [List.getElem?_toArray, List.getElem?_replicate, if_pos hi]⟩
structure NewF (w w' : World) (a : Option Addr) (n cap F gl ga : Nat) : Prop where
 blk : w'.heap[F]? = some (.cells #[.slice a n cap, .int .i64 0, .slice (some ⟨gl, 0, none⟩) 32768 32768, .slice (some ⟨ga, 0, none⟩) n n] 182 (0, 0))
 last : RowAt w' gl 3 32768 (fun _ => .int .i64 (-1))
 ahead : RowAt w' ga 3 n (fun _ => .int .i64 0)
 apart : F ≠ gl ∧ F ≠ ga ∧ gl ≠ ga
 new : w.heap.size ≤ F ∧ w.heap.size ≤ gl ∧ w.heap.size ≤ ga
 st : Step (fun _ => False) w w'
theorem step_below {a b : World} (h : Below a.heap.size a b) : Step (fun _ => False) a b := ⟨h.os, h.tape, h.output, h.size, fun k hk _ => h.block k hk⟩
theorem newF_b {w w2 : World} {a : Option Addr} {n cap gl ga : Nat} (hs : Step (fun _ => False) w w2) (hg : w2.heap[gl]? = some (.cells (di (-1) 32768).toArray 3 (0, 0))) (hgw : w.heap.size ≤ gl) (ha : w2.heap[ga]? = some (.cells (di 0 n).toArray 3 (0, 0))) (haw : w.heap.size ≤ ga) (hne : gl ≠ ga) :
  NewF w (w2.alloc (.cells #[.slice a n cap, .int .i64 0, .slice (some ⟨gl, 0, none⟩) 32768 32768, .slice (some ⟨ga, 0, none⟩) n n] 182)) a n cap w2.heap.size gl ga := by
 have h1 := lt_of_block hg
 have h2 := lt_of_block ha
 exact ⟨heap_alloc_new _ _, (rowAt_di hg).alloc _, (rowAt_di ha).alloc _, ⟨by omega, by omega, hne⟩, ⟨hs.size, hgw, haw⟩, hs.alloc _⟩
theorem newF_a {w w2 : World} {a : Option Addr} {n cap gl : Nat} (hs : Step (fun _ => False) w w2) (hg : w2.heap[gl]? = some (.cells (di (-1) 32768).toArray 3 (0, 0))) (hgw : w.heap.size ≤ gl) :
  NewF w ((w2.alloc (.cells (di 0 n).toArray 3)).alloc (.cells #[.slice a n cap, .int .i64 0, .slice (some ⟨gl, 0, none⟩) 32768 32768, .slice (some ⟨w2.heap.size, 0, none⟩) n n] 182)) a n cap (w2.heap.size + 1) gl w2.heap.size := by
 have h1 := lt_of_block hg
 have h := newF_b (w2 := w2.alloc (.cells (di 0 n).toArray 3)) (a := a) (cap := cap) (hs.alloc _) ((Below.heap_alloc _ _ _ h1).trans hg) hgw (heap_alloc_new _ _) hs.size (by omega)
 rw [World.size_alloc] at h
 exact h
theorem cell_drew (w : World) (p : Addr) : w.drew.cell? p = w.cell? p := rfl
theorem far_cell (w : World) (v : Value) (t : TypeId) : (w.alloc (.cells #[v] t)).cell? ⟨w.heap.size, 0, none⟩ = some v := blk_cell (heap_alloc_new _ _) 0 _ rfl
theorem far_cell2 (w : World) (v : Value) (t : TypeId) (o : Obj) : ((w.alloc (.cells #[v] t)).alloc o).cell? ⟨w.heap.size, 0, none⟩ = some v := blk_cell ((Below.heap_alloc _ _ _ (by simp)).trans (heap_alloc_new _ _)) 0 _ rfl
theorem far_cell3 (w : World) (v : Value) (t : TypeId) (o : Obj) : ((w.alloc o).alloc (.cells #[v] t)).cell? ⟨w.heap.size + 1, 0, none⟩ = some v := by
 have h := far_cell (w.alloc o) v t
 rwa [World.size_alloc] at h
theorem newFinder_ok (a : Option Addr) (n cap : Nat) (w : World) (hn : n ≤ 1048576) :
  Calls Tryz.prog 103 #[.slice a n cap] w fun e w' => ∃ F gl ga, e = .returned (.pointer (some ⟨F, 0, none⟩)) ∧ NewF w w' a n cap F gl ga := by
 obtain ⟨i0, hi, hz0, hz1, hz2⟩ := info_parts Tryz.info3
 obtain ⟨RR, hRR⟩ : ∃ RR : Array Value, RR = (di 0 n).toArray := ⟨_, rfl⟩
 have hmk : ∀ w : World, (Instr.makeSlice 57 (.int .i64 (n : Int)) (.int .i64 (n : Int))).run Tryz.prog w = .ok (.slice (some ⟨w.heap.size, 0, none⟩) n n) (w.alloc (.cells RR 3)) := by
  intro w
  have h := run_make (P := Tryz.prog) w 57 3 i0 (.int .i64 0) Tryz.underlying57 hi hz0 .i64 .i64 n n (by omega) (Int.le_refl _) (by rw [hz2]; omega) (by omega)
  have e : madeCells (Value.int .i64 0).cells ((n : Int).toNat * i0.size) = RR := by
   rw [hRR, hz1]
   apply Array.ext'
   rw [show ((n : Int).toNat * 1) = n by omega]
   exact toList_madeCells_one _ _
  rw [e] at h
  exact h
 have HRR := hide hRR
 clear hRR
 go_enter Tryz.func103, Tryz.ntmps103
 go_wp2_with fail
 go_region_with (go_at_call 133; refine (repeat_far _ (-1) 32768 1 _ (by rw [cell_drew]; first | exact far_cell _ _ _ | exact far_cell2 _ _ _ _ | exact far_cell3 _ _ _ _) (by decide) (by decide) (by decide)).mono ?_; rintro e w2 ⟨g, rfl, hg, hgb, hbel⟩)
 all_goals have hgg := hg
 all_goals simp only [World.drew, World.size_alloc] at hgg
 all_goals have hbz := hbel.size
 all_goals simp only [World.drew, World.size_alloc] at hbz
 all_goals have hglt := lt_of_block hgb
 all_goals have HG := hide hgb
 all_goals have HB := hide hbel
 all_goals clear hgb hbel hg
 all_goals go_wp2_with fail
 all_goals go_ret
 ·refine ⟨w2.heap.size + 1, g, w2.heap.size, rfl, ?_⟩
  rw [unhide HRR]
  exact newF_a (((Step.refl _ _).alloc _).drew.trans (step_below (unhide HB))) (unhide HG) (by omega)
 ·refine ⟨w2.heap.size, g, w.heap.size + 1, rfl, ?_⟩
  have hb := unhide HB
  have h9 := heap_alloc_new (w.alloc (.cells #[.int .i64 (-1)] 3)) (.cells RR 3)
  rw [World.size_alloc] at h9
  have h8 := (hb.block (w.heap.size + 1) (by simp [World.drew])).trans h9
  rw [unhide HRR] at h8
  exact newF_b ((((Step.refl _ _).alloc _).alloc _).drew.trans (step_below hb)) (unhide HG) (by omega) h8 (by omega) (by omega)
 ·refine ⟨w2.heap.size, g, w.heap.size, rfl, ?_⟩
  have hb := unhide HB
  have h9 := (Below.heap_alloc (w.alloc (.cells RR 3)) (.cells #[.int .i64 (-1)] 3) w.heap.size (by simp)).trans (heap_alloc_new w (.cells RR 3))
  have h8 := (hb.block w.heap.size (by simp [World.drew]; omega)).trans h9
  rw [unhide HRR] at h8
  exact newF_b ((((Step.refl _ _).alloc _).alloc _).drew.trans (step_below hb)) (unhide HG) (by omega) h8 (by omega) (by omega)
end Go.Proofs.YtbpahojchgpdnaaGreatDoor
namespace Go.Proofs.YtbpahojchgpdnaaGreatDoor
open Go.RowKit Go.Bel
def PcsFrom (ys : List Nat) : Nat → List Pc → Nat → Prop
 | q, [], r => q = r
 | q, p :: ps, r => q < ys.length ∧ PcOk ys q p ∧ PcsFrom ys (q + max 1 p.l) ps r
theorem PcsFrom.snoc {ys : List Nat} {p : Pc} {r : Nat} : ∀ {ps : List Pc} {q : Nat}, PcsFrom ys q ps r → r < ys.length → PcOk ys r p → PcsFrom ys q (ps ++ [p]) (r + max 1 p.l)
 | [], q, h, hr, hp => by
  have : q = r := h
  subst this
  exact ⟨hr, hp, rfl⟩
 | _ :: _, _, h, hr, hp => ⟨h.1, h.2.1, PcsFrom.snoc h.2.2 hr hp⟩
theorem PcsFrom.count {ys : List Nat} {r : Nat} : ∀ {ps : List Pc} {q : Nat}, PcsFrom ys q ps r → q + ps.length ≤ r
 | [], q, h => by have : q = r := h; simp; omega
 | p :: ps, q, h => by have := PcsFrom.count h.2.2; simp only [List.length_cons]; omega
theorem PcOk.fits {ys : List Nat} {q : Nat} {p : Pc} (h : PcOk ys q p) (hq : q < ys.length) : q + max 1 p.l ≤ ys.length := by
 rcases h with ⟨h, _⟩ | ⟨_, _, h, _⟩ <;> omega
def PcsAre (ys : List Nat) : Nat → List Pc → Nat → Prop
 | q, [], r => q = r
 | q, p :: ps, r => (p = nextF ys q ∧ (p.l ≠ 0 → paysB p.l p.d = true)) ∧ PcsAre ys (q + max 1 p.l) ps r
theorem PcsAre.snoc {ys : List Nat} {p : Pc} {r : Nat} : ∀ {ps : List Pc} {q : Nat}, PcsAre ys q ps r → p = nextF ys r ∧ (p.l ≠ 0 → paysB p.l p.d = true) → PcsAre ys q (ps ++ [p]) (r + max 1 p.l)
 | [], q, h, hp => by
  have : q = r := h
  subst this
  exact ⟨hp, rfl⟩
 | _ :: _, _, h, hp => ⟨h.1, PcsAre.snoc h.2 hp⟩
def pcCells : List Pc → List Value
 | [] => []
 | p :: ps => p.cells.toList ++ pcCells ps
theorem pcCells_length (ps : List Pc) : (pcCells ps).length = ps.length * 3 := by
 induction ps with
 | nil => rfl
 | cons p ps ih => rw [pcCells, List.length_append, ih]; simp [Pc.cells]; omega
theorem pcCells_snoc (ps : List Pc) (p : Pc) : pcCells (ps ++ [p]) = pcCells ps ++ p.cells.toList := by
 induction ps with
 | nil => simp [pcCells]
 | cons x ps ih => rw [List.cons_append, pcCells, ih, pcCells, List.append_assoc]
theorem infoPc : (Tryz.prog.info? 159).map (fun i => (i.zero, i.size, i.bytes)) = some (some (.agg #[.int .u8 0, .int .i64 0, .int .i64 0]), 3, 24) := by kernel_rfl
theorem underPcs : Tryz.prog.underlying 109 = some (.slice 159) := by kernel_rfl
theorem ownsRow_far {w w' : World} {S : Nat → Prop} {base : Nat} {e : TypeId} {size : Nat} {v : Value} {n : Nat} {xs : List Value} (h : w.ownsRow base e size v n xs) (hs : Step S w w') (hn : ∀ k, base ≤ k → ¬ S k) : w'.ownsRow base e size v n xs := by
 obtain ⟨h1, h2 | ⟨g, cap, cur, hv, hg, hh, r⟩⟩ := h
 ·exact ⟨h1, .inl h2⟩
 ·exact ⟨h1, .inr ⟨g, cap, cur, hv, hg, hs.at_ hh (hn g hg), r⟩⟩
structure FindP (w w' : World) (ys : List Nat) (v : Value) (ps : List Pc) : Prop where
 pcs : PcsFrom ys 0 ps ys.length
 are : PcsAre ys 0 ps ys.length
 row : w'.ownsRow w.heap.size 159 3 v ps.length (pcCells ps)
 st : Step (fun _ => False) w w'
theorem find_nil (a : Option Addr) (cap : Nat) (w : World) :
  Calls Tryz.prog 62 #[.slice a 0 cap] w fun e w' => e = .returned (.slice none 0 0) ∧ Step (fun _ => False) w w' := by
 go_enter Tryz.func62, Tryz.ntmps62
 go_wp2_with fail
 refine (newFinder_ok a 0 cap w (by decide)).mono ?_
 rintro e w1 ⟨F, gl, ga, rfl, hN⟩
 have HS := hide hN.st
 clear hN
 go_wp2_with fail
 go_loopw [3, 5] (fun u3 u5 wr => u3 = .slice none 0 0 ∧ u5 = .int .i64 0 ∧ Step (fun _ => False) w wr) (fun _ _ _ => 0)
 case atStart => exact ⟨rfl, rfl, unhide HS⟩
 case round =>
  obtain ⟨rfl, rfl, hst⟩ := hrel
  go_wp2_with fail
  go_ret
  exact ⟨rfl, hst⟩
theorem find_some (j off cap : Nat) (ys : List Nat) (w : World) (hl : Lies w j off ys) (hj : j < w.heap.size) (hb : ∀ i : Nat, ys[i]?.getD 0 < 256) (hf : ys.length ≤ 1048576) :
  Calls Tryz.prog 62 #[.slice (some ⟨j, off, none⟩) ys.length cap] w fun e w' => ∃ v ps, e = .returned v ∧ FindP w w' ys v ps := by
 obtain ⟨i0, hi, hz0, hz1, hz2'⟩ := info_parts infoPc
 go_enter Tryz.func62, Tryz.ntmps62
 go_wp2_with fail
 refine (newFinder_ok (some ⟨j, off, none⟩) ys.length cap w hf).mono ?_
 rintro e w1 ⟨F, gl, ga, rfl, hN⟩
 have hfa : FAt w1 F j off cap gl ga ys 0 (fun _ => -1) (fun _ => 0) :=
  ⟨hN.blk, fun i hi => hN.st.cell (p := ⟨j, off + i, none⟩) (hl i hi) (fun y => y), hb, hf, hN.last, hN.ahead, ⟨hN.apart.1, hN.apart.2.1, hN.apart.2.2, by have := hN.new; omega, by have := hN.new; omega, by have := hN.new; omega⟩, fun _ _ => .inl rfl, fun p hp _ => by omega, rfl, rfl⟩
 have hnew := hN.new
 have hF1 := lt_of_block hfa.blk
 have hgl1 := hfa.last.lt
 have hga1 := hfa.ahead.lt
 have HF := hide hfa
 have HS := hide hN.st
 have hB := hN.st.size
 clear hN hfa
 go_wp2_with fail
 obtain ⟨B, hBd⟩ : ∃ B, B = w1.heap.size := ⟨_, rfl⟩
 rw [← hBd] at hF1 hgl1 hga1 hB
 go_loopw [3, 5] (fun u3 u5 wr => ∃ (at_ n' : Nat) (v : Value) (ps : List Pc) (L A : Nat → Int), u5 = .int .i64 (at_ : Nat) ∧ u3 = v ∧ at_ ≤ ys.length ∧ n' ≤ at_ ∧ FAt wr F j off cap gl ga ys n' L A ∧ (PcsFrom ys 0 ps at_ ∧ PcsAre ys 0 ps at_) ∧ wr.ownsRow B 159 3 v ps.length (pcCells ps) ∧ B ≤ wr.heap.size ∧ Step (fun _ => False) w wr) (fun _ u5 _ => ys.length - (intOf u5).toNat)
 case atStart => exact ⟨0, 0, _, [], _, _, rfl, rfl, by omega, by omega, unhide HF, ⟨rfl, rfl⟩, ⟨rfl, .inl ⟨rfl, rfl⟩⟩, by omega, unhide HS⟩
 case round =>
  clear HF HS
  obtain ⟨q, n', v, ps, L, A, rfl, rfl, hq, hn', hfa, hps, hrow, hBr, hst⟩ := hrel
  have HF := hide hfa
  have HROW := hide hrow
  have HST := hide hst
  have HPS := hide hps
  by_cases hlt : q < ys.length
  ·have hlt' : (q : Int) < (ys.length : Int) := by omega
   clear hfa hrow hst hps
   go_wp2_with fail
   refine (next_ok F j off cap gl ga n' q ys L A wr (unhide HF) hn' hlt).mono ?_
   rintro e w2 ⟨p, rfl, hnp⟩
   obtain ⟨hok, ⟨n2, L2, A2, hn2, hf2⟩, hs2⟩ := hnp
   have hnFS : ∀ k, B ≤ k → ¬ FS F gl ga k := fun k hk y => by rcases y with y | y | y <;> omega
   have hrow2 := ownsRow_far (unhide HROW) hs2 hnFS
   have hst2 : Step (fun _ => False) w w2 := (unhide HST).trans' hs2 (fun i hi y => by rcases y with y | y | y <;> omega)
   have hz2 := hs2.size
   have hpl : p.l ≤ 258 := by rcases hok.ok with y | y <;> omega
   have hfit := hok.ok.fits hlt
   have hcnt := (unhide HPS).1.count
   have HOK := hide hok
   have HF2 := hide hf2
   have HR2 := hide hrow2
   have HS2 := hide hst2
   unfold Pc.cells
   obtain ⟨P, hP⟩ : ∃ P, P = w2.heap.size := ⟨_, rfl⟩
   have hmx : (if (p.l : Int) < 1 then 1 else (p.l : Int)) = ((max 1 p.l : Nat) : Int) := by split <;> omega
   clear hok hf2 hs2 hrow2 hst2 HF HROW HST
   go_wp2_with (at_builtin; refine wpList_append_row _ rfl _ _ 109 rfl B 159 i0 _ 3 24 underPcs hi hz0 hz1 hz2' rfl (by decide) _ ps.length (pcCells ps) rfl (by exact ((unhide HR2).alloc _).alloc _) ⟨w2.heap.size + 1, 0, none⟩ 1 1 p.cells.toList rfl rfl ?c1 ?c2 (by decide) ?c3 ?c4 ?c5 ?_)
   case c1 =>
    intro i u hu
    have h9 := heap_alloc_new (w2.alloc (.cells #[.int .u8 (p.b : Nat), .int .i64 (p.l : Nat), .int .i64 (p.d : Nat)] 159)) (.cells #[.int .u8 (p.b : Nat), .int .i64 (p.l : Nat), .int .i64 (p.d : Nat)] 159)
    rw [World.size_alloc] at h9
    have h8 := blk_cell h9 i u (by rw [← hu]; simp [Pc.cells])
    rw [show (Addr.add ⟨w2.heap.size + 1, 0, none⟩ i) = ⟨w2.heap.size + 1, i, none⟩ by simp [Addr.add]; omega]
    exact h8
   case c2 =>
    intro u hu
    simp [Pc.cells] at hu
    rcases hu with rfl | rfl | rfl <;> rfl
   case c3 => unfold maxLen; omega
   case c4 => omega
   case c5 => simp; omega
   intro g cap' w5 hown hgr hg
   have hrw : ∀ k, u3.ownBlock = some k → B ≤ k ∧ k < w2.heap.size := fun k hk => (unhide HR2).lt k hk
   obtain ⟨w4, hw4⟩ : ∃ w4, w4 = (w2.alloc (.cells #[.int .u8 (p.b : Nat), .int .i64 (p.l : Nat), .int .i64 (p.d : Nat)] 159)).alloc (.cells #[.int .u8 (p.b : Nat), .int .i64 (p.l : Nat), .int .i64 (p.d : Nat)] 159) := ⟨_, rfl⟩
   rw [← hw4] at hgr
   have hs4 : Step (fun _ => False) w2 w4 := by rw [hw4]; exact ((Step.refl _ _).alloc _).alloc _
   have hb4 : w4.heap[w2.heap.size]? = some (.cells #[.int .u8 (p.b : Nat), .int .i64 (p.l : Nat), .int .i64 (p.d : Nat)] 159 (0, 0)) := by
    rw [hw4]
    exact (Below.heap_alloc _ _ _ (by simp)).trans (heap_alloc_new _ _)
   have hb5 := (hgr.block w2.heap.size (lt_of_block hb4) (fun e => by have := (hrw _ e.symm).2; omega)).trans hb4
   have c1 : w5.cell? ⟨w2.heap.size, 1, none⟩ = some (.int .i64 (p.l : Nat)) := blk_cell hb5 1 _ rfl
   have hs5 : Step (fun k => B ≤ k) w2 w5 := (hs4.mono (fun _ y => y.elim)).grown hgr (fun k e => .inl (hrw k e).1)
   have HF5 := hide ((unhide HF2).step hs5 ⟨by omega, by omega, by omega, by omega⟩)
   have HS5 := hide (show Step (fun _ => False) w w5 from (unhide HS2).trans' hs5 (fun i hi y => by omega))
   have HOWN := hide hown
   have hz5 := hs5.size
   have hmw : IntKind.i64.wrap ((q : Int) + ((max 1 p.l : Nat) : Int)) = (q : Int) + ((max 1 p.l : Nat) : Int) := by rw [IntKind.wrap_i64]; omega
   clear hown hgr hb5 hb4 hs4 hs5 hw4 hrw hg HR2 HS2 HF2
   go_wp2_with fail
   have hmx2 : (q : Int) + (if (1 : Int) < (p.l : Int) then (p.l : Int) else 1) = ((q + max 1 p.l : Nat) : Int) := by split <;> omega
   go_roundw
   case rel =>
    rw [hmx2]
    refine ⟨q + max 1 p.l, n2, _, ps ++ [p], L2, A2, rfl, rfl, hfit, hn2, unhide HF5, ⟨(unhide HPS).1.snoc hlt (unhide HOK).ok, (unhide HPS).2.snoc ⟨(unhide HOK).is_, (unhide HOK).pays⟩⟩, ?_, by omega, unhide HS5⟩
    rw [pcCells_snoc, List.length_append, hBd]
    exact unhide HOWN
   case measure =>
    rw [hmx2]
    simp only [intOf]
    omega
  ·have hlt' : ¬ (q : Int) < (ys.length : Int) := by omega
   clear hfa hrow hst hps
   go_wp2_with fail
   go_ret
   have hqq : q = ys.length := by omega
   have h9 := unhide HPS
   rw [hqq] at h9
   exact ⟨_, rfl, ps, h9.1, h9.2, ownsRow_mono (unhide HROW) hB, unhide HST⟩
theorem find_ok (u : Value) (ys : List Nat) (w : World) (h : BytesIn w u ys) :
  Calls Tryz.prog 62 #[u] w fun e w' => ∃ v ps, e = .returned v ∧ FindP w w' ys v ps := by
 rcases h.bytes with ⟨a, c, rfl, rfl⟩ | ⟨j, off, cap, rfl, hl⟩
 ·refine (find_nil a c w).mono ?_
  rintro e w' ⟨rfl, hs⟩
  exact ⟨_, [], rfl, rfl, rfl, ⟨rfl, .inl ⟨rfl, rfl⟩⟩, hs⟩
 ·refine find_some j off cap ys w hl (h.old j off _ cap rfl) (fun i => ?_) h.len
  rcases Nat.lt_or_ge i ys.length with y | y
  ·rw [List.getElem?_eq_getElem y]
   exact h.byte _ (List.getElem_mem y)
  ·rw [List.getElem?_eq_none y]
   exact (by decide)
end Go.Proofs.YtbpahojchgpdnaaGreatDoor
