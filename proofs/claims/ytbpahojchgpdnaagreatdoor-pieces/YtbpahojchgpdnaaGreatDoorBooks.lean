/- Proved here: what dealt gives, code by code, where each code and symbol is within bounds. -/
import Derived.Deep.LoopGhost
import Derived.Test.YtbpahojchgpdnaaGreatDoorAround
import Derived.Test.YtbpahojchgpdnaaGreatDoorBkMark
import Derived.Test.YtbpahojchgpdnaaGreatDoorFound
set_option maxRecDepth 20000
set_option maxHeartbeats 4000000
namespace Go.Proofs.YtbpahojchgpdnaaGreatDoor
open Go.RowKit Go.Shelf Go.Bel Go.Maps
structure CodeOf (L : List Nat) where
 key : Nat
 sym : Nat
 hk : key < 65536
 hs : sym < L.length
def CodeOf.pair {L : List Nat} (x : CodeOf L) : Nat × Nat := (x.key, x.sym)
def codeOf {L : List Nat} (a b : Nat) (h : a < 65536) (k : b < L.length) : CodeOf L := ⟨a, b, h, k⟩
def encB {L : List Nat} (x : CodeOf L) : Array Value := #[.int .u32 (x.key : Nat), .int .i64 (x.sym : Nat)]
def KeysBd (L : List Nat) : Prop := ∀ l k, l < 15 → k < L.length → L[k]?.getD 0 = l + 1 → (dealIn L (l + 1) (stIn L l) k).next < 65536
theorem keysBd_may {L : List Nat} (h15 : ∀ i : Nat, L[i]?.getD 0 ≤ 15) (hm : mayB L = true) : KeysBd L := fun l k hl hk hq => (next_bd L h15 hm l k hl hk hq).2.2
attribute [local go_sem] Oper.semAt_some
set_option maxRecDepth 100000 in
theorem dealtB_in (n : Nat) (hn : 1 ≤ n) (l Bs g off cap : Nat) (L : List Nat) (h15 : ∀ i : Nat, L[i]?.getD 0 ≤ 15) (hm : KeysBd L) (hL : L.length ≤ 1000) (J Jx : List (CodeOf L) → World → Prop)
  (hY : ∀ pre x W, J pre W → pre.length < 15001 → YieldAt Fence.wide (n - 1) Tryz.prog l (encB x) W fun e W' =>
   (e = .returned (.bool true) ∧ J (pre ++ [x]) W' ∧ Keep2 Bs g W W') ∨ (e = .returned (.bool false) ∧ Jx (pre ++ [x]) W'))
  (W : World) (hBs : W.cell? ⟨Bs, 0, none⟩ = some (.slice (some ⟨g, off, none⟩) L.length cap)) (hc : Ints W g off L) (h0 : J [] W) :
  CallsIn Fence.wide n Tryz.prog 178 #[.func (.yield l) #[] #[], .pointer (some ⟨Bs, 0, none⟩)] W fun e W' => (∃ v, e = .returned v) ∧
   ((∃ ys : List (CodeOf L), ys.map CodeOf.pair = givTo L 15 ∧ J ys W') ∨ (∃ pre, True ∧ Jx pre W')) := by
 refine callsIn_of_wp Tryz.func178 rfl trivial ?_ rfl
 simp only [Tryz.ntmps178, List.size_toArray, List.length_cons, List.length_nil, Nat.reduceAdd, Nat.reduceSub, Array.replicate_succ, Array.replicate_zero, List.push_toArray, List.append_toArray, List.nil_append, List.cons_append]
 gi_wp2
 gi_loopw [3, 4] (fun nx ln wr => ∃ (l : Nat) (pre : List (CodeOf L)), l ≤ 15 ∧ ln = .int .i64 ((l : Int) + 1) ∧ nx = .int .u32 ((dealTo L l).next : Nat) ∧ pre.map CodeOf.pair = givTo L l ∧ J pre wr ∧ Keep2 Bs g W wr) (fun _ ln _ => 16 - (intOf ln).toNat)
 case atStart => exact ⟨0, [], by omega, rfl, rfl, rfl, h0, rfl, rfl⟩
 case round =>
  obtain ⟨l, pre, hl, rfl, rfl, hpre, hJ, hB⟩ := hrel
  have hbd := dealTo_bd L hL l hl
  by_cases hlt : l < 15
  ·have e2 : ((dealTo L l).next : Int) * 2 = (((stIn L l).next : Nat) : Int) := by unfold stIn; dsimp only; omega
   have hcs := (World.cell?_of_block (a := ⟨Bs, 0, none⟩) hB.1).trans hBs
   have H2 := hide e2
   have hnb : (stIn L l).next ≤ 65601536 := by unfold stIn; dsimp only; omega
   have HJ := hide hJ
   have HP := hide hpre
   clear e2 hJ hpre
   gi_wp2
   rw [unhide H2, show decide ((l : Int) + 1 ≤ 15) = true from decide_eq_true (by omega)]
   gi_loopw [3, 15] (fun nx i wr => ∃ (k : Nat) (pre : List (CodeOf L)), k ≤ L.length ∧ i = .int .i64 (k : Nat) ∧ nx = .int .u32 ((dealIn L (l + 1) (stIn L l) k).next : Nat) ∧ pre.map CodeOf.pair = givTo L l ++ givIn L (l + 1) (stIn L l) k ∧ J pre wr ∧ Keep2 Bs g W wr) (fun _ i _ => L.length - (intOf i).toNat)
   case atStart => exact ⟨0, pre, by omega, rfl, rfl, by rw [givIn, List.append_nil]; exact unhide HP, unhide HJ, hB⟩
   case round =>
    clear hcs hB HJ HP
    obtain ⟨k, pre, hk, rfl, rfl, hpre, hJ, hB⟩ := hrel
    have hnk := dealIn_next_le L (l + 1) (stIn L l) k
    have hglen : pre.length < 15001 := by
     have h1 := givTo_length L l
     have h2 := givIn_length L (l + 1) (stIn L l) k
     have h4 := congrArg List.length hpre
     rw [List.length_map, List.length_append] at h4
     have h3 : l * L.length ≤ 14 * L.length := Nat.mul_le_mul_right _ (by omega)
     omega
    by_cases hkl : k < L.length
    ·have hcell := (hB.ints hc).cell k hkl
     have hle := h15 k
     obtain ⟨q, hq⟩ : ∃ q, q = L[k]?.getD 0 := ⟨_, rfl⟩
     rw [← hq] at hcell hle
     have HQ := hide hq
     clear hq
     by_cases hql : q = l + 1
     ·have hq' : ((q : Int) != (l : Int) + 1) = false := by rw [bne_eq_false_iff_eq]; omega
      have hb := hm l k hlt hkl (by rw [← unhide HQ]; exact hql)
      obtain ⟨fn, tmps, assign, body, hy, hR⟩ := hY _ (codeOf (L := L) (dealIn L (l + 1) (stIn L l) k).next k hb hkl) wr hJ hglen
      unfold encB codeOf at hy
      dsimp only at hy
      have hgi : givIn L (l + 1) (stIn L l) (k + 1) = givIn L (l + 1) (stIn L l) k ++ [((dealIn L (l + 1) (stIn L l) k).next, k)] := by
       rw [givIn, ← unhide HQ, if_pos hql]
      have hdn : (dealIn L (l + 1) (stIn L l) (k + 1)).next = (dealIn L (l + 1) (stIn L l) k).next + 1 := by
       rw [dealIn, ← unhide HQ, if_pos hql]
      have HP1 := hide (show (pre ++ [codeOf (L := L) (dealIn L (l + 1) (stIn L l) k).next k hb hkl]).map CodeOf.pair = givTo L l ++ givIn L (l + 1) (stIn L l) (k + 1) by
       rw [List.map_append, hpre, hgi, List.append_assoc]; rfl)
      obtain ⟨pre1, hpre1⟩ : ∃ pre1, pre1 = pre ++ [codeOf (L := L) (dealIn L (l + 1) (stIn L l) k).next k hb hkl] := ⟨_, rfl⟩
      rw [← hpre1] at hR HP1
      clear hpre1
      have HDN := hide hdn
      obtain ⟨nx, hnx⟩ : ∃ nx, nx = (dealIn L (l + 1) (stIn L l) k).next := ⟨_, rfl⟩
      rw [← hnx] at hb hy hdn ⊢
      have HNX := hide hnx
      have hb3 : nx < 65536 := hb
      have HB := hide hB
      have HR := hide hR
      clear hgi hdn hnx hb hB hJ hnk hR hglen hbd hpre
      gi_wp2
      refine (unhide HR).mono ?_
      rintro e W3 (⟨rfl, hJ3, hk3⟩ | ⟨rfl, hJx3⟩)
      ·have HJ3 := hide hJ3
       clear hJ3
       gi_wp2
       go_roundw
       case rel => exact ⟨k + 1, pre1, by omega, by go_num, by rw [unhide HDN, ← unhide HNX]; go_num, unhide HP1, unhide HJ3, (unhide HB).trans hk3⟩
       case measure => simp [intOf]; omega
      ·have HJ3 := hide hJx3
       clear hJx3
       gi_wp2
       refine bodyPost_ret (results_none rfl _ _ _) rfl ?_
       exact ⟨⟨_, rfl⟩, .inr ⟨_, trivial, unhide HJ3⟩⟩
     ·have hq' : ((q : Int) != (l : Int) + 1) = true := by rw [bne_iff_ne]; omega
      have HB := hide hB
      have HJ := hide hJ
      have HP := hide hpre
      clear hJ hB hnk hglen hbd hpre
      gi_wp2
      go_roundw
      case rel => exact ⟨k + 1, pre, by omega, by go_num, by rw [dealIn, ← unhide HQ, if_neg hql], by rw [givIn, ← unhide HQ, if_neg hql, List.append_nil]; exact unhide HP, unhide HJ, unhide HB⟩
      case measure => simp [intOf]; omega
    ·have : k = L.length := by omega
     subst this
     have HB := hide hB
     have HJ := hide hJ
     have HP := hide hpre
     clear hJ hB hnk hglen hbd hpre
     gi_wp2
     go_roundw
     case rel => exact ⟨l + 1, pre, by omega, by go_num, rfl, unhide HP, unhide HJ, unhide HB⟩
     case measure => simp [intOf]; omega
  ·have : l = 15 := by omega
   subst this
   have HJ := hide hJ
   have HP := hide hpre
   clear hJ hB hbd hpre
   gi_wp2
   go_end0
   exact ⟨⟨_, rfl⟩, .inl ⟨_, unhide HP, unhide HJ⟩⟩
theorem dealtB_stops (n : Nat) (hn : 1 ≤ n) (Bs g off cap : Nat) (L : List Nat) (h15 : ∀ i : Nat, L[i]?.getD 0 ≤ 15) (hm : KeysBd L) (hL : L.length ≤ 1000) (w : World) (hBs : Bs < w.heap.size) (hg : g < w.heap.size)
  (hb : w.cell? ⟨Bs, 0, none⟩ = some (.slice (some ⟨g, off, none⟩) L.length cap)) (hc : Ints w g off L) :
  SeqStopsK Fence.wide n Tryz.prog 178 #[.pointer (some ⟨Bs, 0, none⟩)] encB (Keep2 Bs g) (fun (ys : List (CodeOf L)) => ys.map CodeOf.pair = givTo L 15) (fun _ => True) 15001 w := fun l J Jx W hW _ _ hY h0 =>
 dealtB_in n hn l Bs g off cap L h15 hm hL J Jx hY W ((hW.cell (p := ⟨Bs, 0, none⟩) hBs).trans hb) ⟨fun i hi => (hW.cell (p := ⟨g, off + i, none⟩) hg).trans (hc.cell i hi), hc.le, hc.much⟩ h0
def bookOf (xs : List (Nat × Nat)) : Nat → Nat := xs.foldl (fun M x c => if c = x.2 then x.1 else M c) (fun _ => 0)
theorem bookOf_snoc (xs : List (Nat × Nat)) (x : Nat × Nat) : bookOf (xs ++ [x]) = fun c => if c = x.2 then x.1 else bookOf xs c := by simp [bookOf]
theorem book_in (L : List Nat) (l : Nat) (s : Nat) : ∀ k, bookOf (givTo L l ++ givIn L (l + 1) (stIn L l) k) s = if s < k ∧ L[s]?.getD 0 = l + 1 then Go.Bel.keyOf L s else bookOf (givTo L l) s := by
 intro k
 induction k with
 | zero => rw [givIn, List.append_nil, if_neg (by omega)]
 | succ k ih =>
  rw [givIn]
  by_cases hq : L[k]?.getD 0 = l + 1
  ·rw [if_pos hq, ← List.append_assoc, bookOf_snoc]
   dsimp only
   by_cases hs : s = k
   ·subst hs
    rw [if_pos rfl, if_pos ⟨by omega, hq⟩, dealIn_next]
    unfold Go.Bel.keyOf stIn
    dsimp only
    rw [hq, dealTo_next, show l + 1 - 1 = l by omega]
   ·rw [if_neg hs, ih]
    by_cases h2 : s < k ∧ L[s]?.getD 0 = l + 1
    ·rw [if_pos h2, if_pos ⟨by omega, h2.2⟩]
    ·rw [if_neg h2, if_neg (fun h3 => h2 ⟨by omega, h3.2⟩)]
  ·rw [if_neg hq, List.append_nil, ih]
   by_cases h2 : s < k ∧ L[s]?.getD 0 = l + 1
   ·rw [if_pos h2, if_pos ⟨by omega, h2.2⟩]
   ·rw [if_neg h2, if_neg (fun h3 => ?_)]
    by_cases hs : s = k
    ·subst hs; exact hq h3.2
    ·exact h2 ⟨by omega, h3.2⟩
theorem book_to (L : List Nat) (s : Nat) (hs : s < L.length) (h0 : 0 < L[s]?.getD 0) : ∀ l, L[s]?.getD 0 ≤ l → bookOf (givTo L l) s = Go.Bel.keyOf L s := by
 intro l
 induction l with
 | zero => intro h; omega
 | succ l ih =>
  intro h
  rw [givTo, book_in]
  by_cases h1 : L[s]?.getD 0 = l + 1
  ·rw [if_pos ⟨hs, h1⟩]
  ·rw [if_neg (fun y => h1 y.2)]
   exact ih (by omega)
end Go.Proofs.YtbpahojchgpdnaaGreatDoor
namespace Go.Proofs.YtbpahojchgpdnaaGreatDoor
open Go.RowKit Go.Shelf Go.Bel Go.Maps
attribute [local go_sem] Oper.semAt_some
def bookCells (M : Nat → Nat) (n : Nat) : Array Value := ((List.range n).map fun s => (.int .u32 (M s : Nat) : Value)).toArray
theorem bookCells_get (M : Nat → Nat) (n s : Nat) (h : s < n) : (bookCells M n)[s]? = some (.int .u32 (M s : Nat)) := by simp [bookCells, h]
theorem bookCells_size (M : Nat → Nat) (n : Nat) : (bookCells M n).size = n := by simp [bookCells]
theorem bookCells_set (M : Nat → Nat) (n s v : Nat) : (bookCells M n).setIfInBounds s (.int .u32 (v : Nat)) = bookCells (fun c => if c = s then v else M c) n := by
 apply Array.ext_getElem?
 intro i
 rw [Array.getElem?_setIfInBounds]
 by_cases hi : i < n
 ·rw [bookCells_get _ _ _ hi, bookCells_get _ _ _ hi, bookCells_size]
  by_cases e : s = i
  ·subst e; simp [hi]
  ·simp [e, Ne.symm e]
 ·have h1 : (bookCells M n)[i]? = none := by simp [bookCells]; omega
  have h2 : (bookCells (fun c => if c = s then v else M c) n)[i]? = none := by simp [bookCells]; omega
  rw [h1, h2, bookCells_size]
  split
  ·rw [if_neg (by omega)]
  ·rfl
theorem infoKey : (Tryz.prog.info? 198).map (fun i => (i.zero, i.size, i.bytes)) = some (some (.int .u32 0), 1, 4) := by kernel_rfl
theorem underBook : Tryz.prog.underlying 150 = some (.slice 198) := by kernel_rfl
structure BookW (w : World) (R : Nat) (L : List Nat) (pre : List (CodeOf L)) (W : World) : Prop where
 blk : W.heap[R]? = some (.cells (bookCells (bookOf (pre.map CodeOf.pair)) L.length) 198 (0, 0))
 var : W.cell? ⟨R + 1, 0, none⟩ = some (.slice (some ⟨R, 0, none⟩) L.length L.length)
 below : Below w.heap.size w W
 big : R + 3 ≤ W.heap.size
set_option maxRecDepth 100000 in
theorem newBook_ok (g off cap : Nat) (L : List Nat) (w : World) (h : Ints w g off L) (hgl : g < w.heap.size) (hm : KeysBd L) (hL0 : 0 < L.length) :
  Calls Tryz.prog 131 #[.slice (some ⟨g, off, none⟩) L.length cap] w fun e w' => ∃ gb, e = .returned (.slice (some ⟨gb, 0, none⟩) L.length L.length) ∧ w.heap.size ≤ gb ∧ w'.heap[gb]? = some (.cells (bookCells (bookOf (givTo L 15)) L.length) 198 (0, 0)) ∧ Step (fun _ => False) w w' := by
 refine (callsIn_wide (n := 3)).1 ?_
 have hmuch := h.much
 obtain ⟨i0, hi, hz0, hz1, hz2⟩ := info_parts infoKey
 obtain ⟨n, hn⟩ : ∃ n, n = L.length := ⟨_, rfl⟩
 obtain ⟨RR, hRR⟩ : ∃ RR : Array Value, RR = bookCells (bookOf []) n := ⟨_, rfl⟩
 have hmk : ∀ w : World, (Instr.makeSlice 150 (.int .i64 (n : Int)) (.int .i64 (n : Int))).run Tryz.prog w = .ok (.slice (some ⟨w.heap.size, 0, none⟩) n n) (w.alloc (.cells RR 198)) := by
  intro w
  have h := run_make (P := Tryz.prog) w 150 198 i0 (.int .u32 0) underBook hi hz0 .i64 .i64 n n (by omega) (Int.le_refl _) (by rw [hz2]; omega) (by omega)
  have e : madeCells (Value.int .u32 0).cells ((n : Int).toNat * i0.size) = RR := by
   rw [hRR, hz1]
   apply Array.ext'
   rw [show ((n : Int).toNat * 1) = n by omega]
   refine (toList_madeCells_one _ _).trans ?_
   unfold bookCells bookOf
   simp [List.map_const']
  rw [e] at h
  exact h
 refine callsIn_of_wp_marks Tryz.func131 rfl trivial ?_ rfl
 simp only [Tryz.ntmps131, List.size_toArray, List.length_cons, List.length_nil, Nat.reduceAdd, Nat.reduceSub, Array.replicate_succ, Array.replicate_zero, List.push_toArray, List.append_toArray, List.nil_append, List.cons_append]
 rw [← hn] at hmuch hL0 ⊢
 have HN := hide hn
 clear hn
 gi_wp2_with (refine ⟨trivial, ?_⟩; gi_at_call 157; refine (dealt_in _ _ trivial rfl _ _ _ _).mono ?_; rintro e w' ⟨rfl, rfl⟩)
 obtain ⟨R, hR⟩ : ∃ R, R = w.heap.size := ⟨_, rfl⟩
 rw [← hR]
 obtain ⟨w1, hw1⟩ : ∃ w1, w1 = ((w.alloc (.cells RR 198)).alloc (.cells #[.slice (some ⟨R, 0, none⟩) n n] 150)).alloc (.cells #[.slice (some ⟨g, off, none⟩) n cap] 57) := ⟨_, rfl⟩
 rw [← hRR, ← hw1]
 have hz1 : w1.heap.size = R + 1 + 1 + 1 := by rw [hw1, hR]; simp
 have hb1 : Below w.heap.size w w1 := by rw [hw1]; exact ((((Below.refl _ w).alloc (Nat.le_refl _) _).alloc (by simp) _).alloc (by simp; omega) _)
 have hbox : w1.cell? ⟨R + 1 + 1, 0, none⟩ = some (.slice (some ⟨g, off, none⟩) L.length cap) := by
  have h9 := heap_alloc_new ((w.alloc (.cells RR 198)).alloc (.cells #[.slice (some ⟨R, 0, none⟩) n n] 150)) (.cells #[.slice (some ⟨g, off, none⟩) n cap] 57)
  rw [← hw1, show ((w.alloc (.cells RR 198)).alloc (.cells #[.slice (some ⟨R, 0, none⟩) n n] 150)).heap.size = R + 1 + 1 by rw [hR]; simp] at h9
  rw [← unhide HN]
  exact cell_of_one h9
 have hvar : w1.cell? ⟨R + 1, 0, none⟩ = some (.slice (some ⟨R, 0, none⟩) n n) := by
  have h9 := heap_alloc_new (w.alloc (.cells RR 198)) (.cells #[.slice (some ⟨R, 0, none⟩) n n] 150)
  rw [show (w.alloc (.cells RR 198)).heap.size = R + 1 by rw [hR]; simp] at h9
  rw [hw1]
  exact cell_of_one ((Below.heap_alloc _ _ _ (by simp; omega)).trans h9)
 have hbk : w1.heap[R]? = some (.cells RR 198 (0, 0)) := by
  rw [hw1, hR]
  exact (Below.heap_alloc _ _ _ (by simp; omega)).trans ((Below.heap_alloc _ _ _ (by simp)).trans (heap_alloc_new _ _))
 have hI0 : BookW w R L [] w1 := ⟨by rw [hbk, hRR, unhide HN]; rfl, by rw [hvar, unhide HN], hb1, by omega⟩
 have hc1 : Ints w1 g off L := ⟨fun i hi => (hb1.cell (p := ⟨g, off + i, none⟩) hgl).trans (h.cell i hi), h.le, h.much⟩
 have h15 := h.le
 have hmuch' := h.much
 have hRw : w.heap.size ≤ R := by omega
 have hRw2 : R ≤ w.heap.size := by omega
 have HH0 := hide hI0
 have HC1 := hide hc1
 clear hw1 hR hvar hbk hRR hmk h hI0 hc1 hi hz0
 refine wpIn_rangeFunc_ownG (F := Fence.wide) rfl (by omega) (gf := 178) (lb := #[.pointer (some ⟨R + 1 + 1, 0, none⟩)]) rfl trivial (enters_of Tryz.func178 (by kernel_rfl) rfl)
  (dealtB_stops _ (by omega) (R + 1 + 1) g off cap L h15 hm hmuch' w1 (by omega) (by omega) hbox (unhide HC1)) Keep2.trans ?hKb (Below.refl _ _) (fun _ => rfl)
  (BookW w R L) (fun _ _ _ => False) ?hI (fun _ _ _ _ _ hs _ _ => hs) (unhide HH0)
  (fun x => { tmps := #[.slice (some ⟨g, off, none⟩) n cap, undef, .slice none 0 0, .pointer (some ⟨R + 1, 0, none⟩), .int .u32 (x.key : Nat), .int .i64 (x.sym : Nat), .slice (some ⟨g, off, none⟩) n cap, .int .i64 (n : Nat), .slice (some ⟨R, 0, none⟩) n n, .slice (some ⟨g, off, none⟩) n cap, .func (.func 178) #[] #[.pointer (some ⟨R + 1 + 1, 0, none⟩)], .int .u32 (x.key : Nat), .int .i64 (x.sym : Nat), undef, undef, undef, undef, undef], defers := [] }) ?assign ?body ?done ?stop
 case hKb =>
  intro W l o o' hl _ _ _
  exact ⟨World.putObj_heap_other (by omega), World.putObj_heap_other (by omega)⟩
 case hI =>
  intro s A B row hs hg hr
  have hr2 := fun r e => (hr r e).2
  have hbig := hs.big
  exact ⟨(hg.block R (by omega) (fun e => by have := (hr _ e.symm).1; omega)).trans hs.blk, cell_kept hs.var hg hr2, hs.below.grown hg hs.below.size (fun k e => by have := (hr k e).1; omega), Nat.le_trans hs.big hg.size⟩
 case assign =>
  intro l x W K hK
  dsimp only [encB]
  gi_wp2
  exact hK
 case body =>
  rintro l pre x W hs hlt
  obtain ⟨K, S, hK, hS⟩ := x
  dsimp only at hK hS ⊢
  have hv := hs.var
  rw [← unhide HN] at hv hS
  have hb := hs.blk
  have hc := blk_cell hb S _ (bookCells_get _ _ S (by rw [← unhide HN]; exact hS))
  have hf := blk_free hb S
  have hS1 : (S : Int) < (n : Int) := by omega
  have HS := hide hs
  clear hs hb
  gi_wp2
  have hs := unhide HS
  have hbig := hs.big
  refine ⟨(KeepsOthers.setCell _ _ _).from _, ⟨?_, ?_⟩, ?_⟩
  ·exact Below.heap_setCell _ _ _ _ (by simp; omega)
  ·exact Below.heap_setCell _ _ _ _ (by simp; omega)
  ·refine ⟨?_, ?_, ?_, by simp [World.setCell]; omega⟩
   ·have h9 := blk_set hs.blk S (.int .u32 (K : Nat))
    rw [show ∀ y : CodeOf L, y.pair = (K, S) → (pre ++ [y]).map CodeOf.pair = pre.map CodeOf.pair ++ [(K, S)] from fun y hy => by rw [List.map_append, ← hy]; rfl, bookOf_snoc, ← bookCells_set]
    ·exact h9
    ·rfl
   ·exact (World.cell?_setCell_other _ _ _ _ (by simp)).trans hs.var
   ·exact hs.below.setCell (p := ⟨R, S, none⟩) hRw _
 case done =>
  rintro Dd ys W hDd hys hs hK
  have hv := hs.var
  rw [← unhide HN] at hv
  have HS := hide hs
  clear hs
  gi_wp2
  have hs := unhide HS
  have hbig := hs.big
  have hB3 : Below w.heap.size w (W.putObj Dd (.deferred none)) := hs.below.grown (grownBy_putObj' W Dd (.deferred none)) hs.below.size (fun k e => by cases e; omega)
  refine ⟨by simp, .inl ⟨_, _, rfl, run_takeDeferred hK, ?_⟩⟩
  refine ⟨.slice (some ⟨R, 0, none⟩) n n, by simp [results, Tryz.results131, go_sem], R, rfl, hRw, ?_, ?_⟩
  ·rw [World.putObj_heap_other (by omega), hs.blk, hys, unhide HN]
  ·exact ⟨hB3.os, hB3.tape, hB3.output, hB3.size, fun k hk _ => hB3.block k hk⟩
 case stop =>
  rintro Dd c pre W _ _ hx _
  exact hx.elim
end Go.Proofs.YtbpahojchgpdnaaGreatDoor
namespace Go.Proofs.YtbpahojchgpdnaaGreatDoor
open Go.RowKit Go.Bel
theorem and_one_u32 (a : Nat) (ha : a < 65536) : bits .and .u32 (a : Int) 1 = ((a % 2 : Nat) : Int) := by
 have hx : a &&& 1 < 2 ^ 1 := Nat.and_lt_two_pow _ (by omega)
 show IntKind.u32.wrap ((BitVec.ofInt 32 (a : Int) &&& BitVec.ofInt 32 ((1 : Nat) : Int)).toNat : Int) = _
 rw [BitVec.toNat_and, ofInt_nat 32 a (by omega), ofInt_nat 32 1 (by omega), IntKind.wrap_u32, Nat.and_one_is_mod]
 omega
theorem key_bit (K n j : Nat) (h1 : 2 ^ n ≤ K) (hj : j < n) : (K - 2 ^ n) / 2 ^ j % 2 = K / 2 ^ j % 2 := by
 obtain ⟨y, rfl⟩ : ∃ y, K = 2 ^ n + y := ⟨K - 2 ^ n, by omega⟩
 rw [Nat.add_sub_cancel_left]
 have e : 2 ^ n = 2 ^ j * (2 * 2 ^ (n - j - 1)) := by rw [← Nat.pow_succ', ← Nat.pow_add]; congr 1; omega
 rw [e, Nat.mul_add_div (Nat.pow_pos (by omega))]
 omega
theorem bookWrite_ok (k base g off cap N s K n : Nat) (v : Value) (bs : List Bool) (w : World) (h : Sk w k base v bs) (hc : w.cell? ⟨g, off + s, none⟩ = some (.int .u32 (K : Nat))) (hs : s < N) (h1 : 2 ^ n ≤ K) (h2 : K < 2 ^ (n + 1)) (hn : n ≤ 15) (hl : bs.length < 70368744170000) (hbase : base ≤ w.heap.size) :
  Calls Tryz.prog 127 #[.slice (some ⟨g, off, none⟩) N cap, .pointer (some ⟨k, 0, none⟩), .int .i64 (s : Nat)] w
   fun e w' => e = .returned (.tuple #[]) ∧ ∃ v', Sk w' k base v' (bs ++ codeBits (K - 2 ^ n) n) ∧ Wrt k w v w' v' := by
 have hK : K < 65536 := Nat.lt_of_lt_of_le h2 (by have := Nat.pow_le_pow_right (show 0 < 2 by omega) (show n + 1 ≤ 16 by omega); omega)
 have HH := hide h
 have hs0 : (0 : Int) ≤ (s : Int) := by omega
 have hs1 : (s : Int) < (N : Int) := by omega
 have HLen := hide (length_any K w hK)
 have hbl := bitLen_of n K h1 h2 hK
 have HBL := hide hbl
 have H1 := hide h1
 clear h hbl h2 h1
 go_enter Tryz.func127, Tryz.ntmps127
 go_wp2_with fail
 refine (unhide HLen).mono ?_
 rintro r w1 ⟨rfl, rfl⟩
 rw [unhide HBL, show (((n + 1 : Nat) : Int) - 1) = (n : Int) by omega]
 clear HLen HBL
 go_wp2_with fail
 go_loopg [7] n (fun g u7 wr => ∃ (j : Nat) (v1 : Value), u7 = .int .i64 ((n : Int) - 1 - (j : Nat)) ∧ g + j = n ∧ Sk wr k base v1 (bs ++ codeTo (K - 2 ^ n) n j) ∧ Wrt k w1 v wr v1)
 case atStart => exact ⟨0, v, by simp, by omega, by rw [show codeTo (K - 2 ^ n) n 0 = [] from rfl, List.append_nil]; exact unhide HH, Wrt.refl _ _ _⟩
 case round =>
  obtain ⟨j, v1, rfl, hg, hsk, hw⟩ := hrel
  by_cases hj : j < n
  ·obtain ⟨i, hi⟩ : ∃ i, i = n - 1 - j := ⟨_, rfl⟩
   have hii : (n : Int) - 1 - (j : Int) = (i : Int) := by omega
   have hge : (i : Int) ≥ 0 := by omega
   have hi64 : i < 64 := by omega
   have hd : K / 2 ^ i < 65536 := Nat.lt_of_le_of_lt (Nat.div_le_self _ _) hK
   have hbit := and_one_u32 (K / 2 ^ i) hd
   have hbit' : bits .and .u32 ((K : Int) / 2 ^ i) 1 = ((K / 2 ^ i % 2 : Nat) : Int) := by rw [← hbit]; simp
   have hsz := hw.step.size
   have hC := skBitS k base (K / 2 ^ i % 2) v1 (bs ++ codeTo (K - 2 ^ n) n j) wr hsk (by omega) (by rw [List.length_append, codeTo_length]; omega) (by omega)
   have HC := hide hC
   have HW := hide hw
   have HK := hide (key_bit K n i (unhide H1) (by omega))
   obtain ⟨y, hy⟩ : ∃ y, y = K / 2 ^ i % 2 := ⟨_, rfl⟩
   rw [← hy] at hbit' HC
   have HY := hide hy
   have HI := hide hi
   have hy2 : y < 2 := by omega
   rw [hii]
   clear hC hw hsk hbit hd hy hi
   go_wp2_with fail
   refine (unhide HC).mono ?_
   rintro r w2 ⟨rfl, v2, hs2, hw2⟩
   have HF := hide (show Sk w2 k base v2 (bs ++ codeTo (K - 2 ^ n) n (j + 1)) ∧ Wrt k w1 v w2 v2 from ⟨by
    rw [codeTo_succ, ← List.append_assoc, ← unhide HI, unhide HK, ← unhide HY]; exact hs2, (unhide HW).trans hw2⟩)
   clear hs2 hw2 HC HW
   go_wp2_with fail
   go_roundg (gk - 1)
   case measure => omega
   case rel => exact ⟨j + 1, v2, by simp; omega, by omega, unhide HF⟩
  ·obtain rfl : j = n := by omega
   have hge : ¬ ((j : Int) - 1 - (j : Int) ≥ 0) := by omega
   have HF := hide (And.intro hsk hw)
   clear hsk hw
   go_wp2_with fail
   go_end0
   exact ⟨rfl, v1, unhide HF⟩
theorem Sk.off {w : World} {k base : Nat} {v : Value} {bs : List Bool} (h : Sk w k base v bs) {j : Nat} (hj : w.heap.size ≤ j) : Off k v j := by
 have hk := h.lt
 obtain ⟨B, hB⟩ := h
 exact ⟨by omega, fun x => by have := (hB.own.lt j x).2; omega⟩
theorem markWrite_ok (k base g off cap N s K n x m : Nat) (v : Value) (bs : List Bool) (w : World) (h : Sk w k base v bs) (hc : w.cell? ⟨g, off + s, none⟩ = some (.int .u32 (K : Nat))) (hs : s < N) (h1 : 2 ^ n ≤ K) (h2 : K < 2 ^ (n + 1)) (hn : n ≤ 15) (hx : x < 1000000) (hm : m ≤ 20) (hl : bs.length < 70368744000000) (hbase : base ≤ w.heap.size) :
  Calls Tryz.prog 129 #[.agg #[.int .i64 (s : Nat), .int .i64 (x : Nat), .int .i64 (m : Nat)], .pointer (some ⟨k, 0, none⟩), .slice (some ⟨g, off, none⟩) N cap] w
   fun e w' => e = .returned (.tuple #[]) ∧ ∃ v', Sk w' k base v' (bs ++ codeBits (K - 2 ^ n) n ++ numBits x m) ∧ Wrt k w v w' v' := by
 have hkl := h.lt
 have HH := hide h
 have HC := hide hc
 have hgl := World.block_lt_of_cell? w _ hc
 clear h hc
 go_enter Tryz.func129, Tryz.ntmps129
 go_wp2_with fail
 obtain ⟨w0, hw0⟩ : ∃ w0, w0 = w.alloc (.cells #[.int .i64 (s : Nat), .int .i64 (x : Nat), .int .i64 (m : Nat)] 175) := ⟨_, rfl⟩
 have hb0 : w0.heap[w.heap.size]? = some (.cells #[.int .i64 (s : Nat), .int .i64 (x : Nat), .int .i64 (m : Nat)] 175 (0, 0)) := by rw [hw0]; exact heap_alloc_new _ _
 have hs0 : Step (fun _ => False) w w0 := by rw [hw0]; exact (Step.refl _ _).alloc _
 rw [← hw0]
 have ho := (unhide HH).off (Nat.le_refl _)
 have hs0z := hs0.size
 refine (bookWrite_ok k base g off cap N s K n v bs w0 ((unhide HH).step0 hs0) (hs0.cell (unhide HC) (fun y => y)) hs h1 h2 hn (by omega) (by omega)).mono ?_
 rintro r w1 ⟨rfl, v1, hk1, hw1⟩
 have hb1 := hw1.step.at_ hb0 (fun x => x.elim ho.1 ho.2)
 obtain ⟨m0, m1, mf0, mf1, m2, mf2⟩ := blk_three hb1
 have hz1 := hw1.step.size
 have HW1 := hide ((⟨hs0.mono (fun _ y => y.elim), fun _ y => .inl y⟩ : Wrt k w v w0 v).trans hw1)
 have HN := hide (skNum k base x m v1 (bs ++ codeBits (K - 2 ^ n) n) w1 hk1 (by omega) (by omega) (by rw [List.length_append, codeBits_length]; omega) (by omega))
 clear hw0 hb0 hs0 hb1 hk1 hw1
 go_wp2_with fail
 refine (unhide HN).mono ?_
 rintro r w2 ⟨rfl, v2, hk2, hw2⟩
 have HF := hide (And.intro hk2 ((unhide HW1).trans hw2))
 clear hk2 hw2 HN
 go_wp2_with fail
 go_end0
 exact ⟨rfl, v2, unhide HF⟩
end Go.Proofs.YtbpahojchgpdnaaGreatDoor
namespace Go.Proofs.YtbpahojchgpdnaaGreatDoor
open Go.RowKit Go.Bel
def codeB (L : List Nat) (s : Nat) : List Bool := codeBits (Go.Bel.keyOf L s - 2 ^ (L[s]?.getD 0)) (L[s]?.getD 0)
structure HasCode (L : List Nat) (s : Nat) : Prop where
 lt : s < L.length
 pos : 1 ≤ L[s]?.getD 0
 le : L[s]?.getD 0 ≤ 15
 lo : 2 ^ (L[s]?.getD 0) ≤ Go.Bel.keyOf L s
 hi : Go.Bel.keyOf L s < 2 ^ (L[s]?.getD 0 + 1)
theorem hasCode_may {L : List Nat} (h15 : ∀ i : Nat, L[i]?.getD 0 ≤ 15) (hm : mayB L = true) {s : Nat} (hs : s < L.length) (h1 : 1 ≤ L[s]?.getD 0) : HasCode L s := by
 obtain ⟨l, hl⟩ : ∃ l, L[s]?.getD 0 = l + 1 := ⟨L[s]?.getD 0 - 1, by omega⟩
 have h9 := h15 s
 have hb := next_bd L h15 hm l s (by omega) hs hl
 have e : (dealIn L (l + 1) (stIn L l) s).next = Go.Bel.keyOf L s := by
  rw [dealIn_next]
  unfold Go.Bel.keyOf stIn
  dsimp only
  rw [hl, dealTo_next, show l + 1 - 1 = l by omega]
 rw [e] at hb
 refine ⟨hs, h1, h9, ?_, ?_⟩ <;> rw [hl]
 ·exact hb.1
 ·exact hb.2.1
theorem codeB_length (L : List Nat) (s : Nat) : (codeB L s).length = L[s]?.getD 0 := codeBits_length _ _
def PcBits (L1 L2 : List Nat) (p : Pc) (b : List Bool) : Prop :=
 (p.l = 0 ∧ b = codeB L1 p.b) ∨ (p.l ≠ 0 ∧ ∃ s x m s2 x2 m2, LenM p.l s x m ∧ DistM p.d s2 x2 m2 ∧ b = codeB L1 s ++ numBits x m ++ codeB L2 s2 ++ numBits x2 m2)
def PcsBits (L1 L2 : List Nat) : List Pc → List Bool → Prop
 | [], b => b = []
 | p :: ps, b => ∃ b1 b2, b = b1 ++ b2 ∧ PcBits L1 L2 p b1 ∧ PcsBits L1 L2 ps b2
theorem PcsBits.snoc {L1 L2 : List Nat} {p : Pc} {b' : List Bool} : ∀ {ps : List Pc} {b : List Bool}, PcsBits L1 L2 ps b → PcBits L1 L2 p b' → PcsBits L1 L2 (ps ++ [p]) (b ++ b')
 | [], b, h, hp => by
  have : b = [] := h
  subst this
  exact ⟨b', [], by simp, hp, rfl⟩
 | _ :: _, _, ⟨b1, b2, hb, h1, h2⟩, hp => ⟨b1, b2 ++ b', by rw [hb, List.append_assoc], h1, PcsBits.snoc h2 hp⟩
def Needs (L1 L2 : List Nat) (p : Pc) : Prop :=
 (p.l = 0 ∧ p.b < 256 ∧ HasCode L1 p.b) ∨ (3 ≤ p.l ∧ p.l ≤ 258 ∧ 1 ≤ p.d ∧ p.d ≤ 32768 ∧ (∀ s x m, LenM p.l s x m → HasCode L1 s) ∧ ∀ s x m, DistM p.d s x m → HasCode L2 s)
theorem LenM.bd {n s x m : Nat} (h : LenM n s x m) : x < 2 ^ m ∧ m ≤ 5 ∧ 257 ≤ s ∧ s ≤ 285 := by
 rcases h with ⟨_, _, h3, h4⟩ | ⟨_, _, _, h3, h4⟩ | ⟨_, _, h3, _, h4, h5⟩
 ·subst h3 h4; exact ⟨by decide, by omega, by omega, by omega⟩
 ·subst h3 h4; exact ⟨by decide, by omega, by omega, by omega⟩
 ·exact ⟨h4, h5.1, by omega, by omega⟩
theorem DistM.bd {n s x m : Nat} (h : DistM n s x m) : x < 2 ^ m ∧ m ≤ 13 ∧ s < 30 := by
 rcases h with ⟨_, _, h3, h4⟩ | ⟨_, _, h3, _, h4, h5⟩
 ·subst h3 h4; exact ⟨by decide, by omega, by omega⟩
 ·exact ⟨h4, h5, by omega⟩
theorem pow_lt_mil {x m : Nat} (h : x < 2 ^ m) (hm : m ≤ 13) : x < 1000000 := by
 have := Nat.pow_le_pow_right (show 0 < 2 by omega) hm
 have e : (2 : Nat) ^ 13 = 8192 := rfl
 omega
def BookAt (w : World) (g : Nat) (L : List Nat) : Prop := w.heap[g]? = some (.cells (bookCells (bookOf (givTo L 15)) L.length) 198 (0, 0))
theorem BookAt.cell {w : World} {g : Nat} {L : List Nat} (h : BookAt w g L) {s : Nat} (hc : HasCode L s) : w.cell? ⟨g, 0 + s, none⟩ = some (.int .u32 (Go.Bel.keyOf L s : Nat)) := by
 rw [Nat.zero_add, ← book_to L s hc.lt (by have := hc.pos; omega) 15 hc.le]
 exact blk_cell h s _ (bookCells_get _ _ _ hc.lt)
theorem newBooks_ok (g1 o1 c1 g2 o2 c2 : Nat) (L1 L2 : List Nat) (w : World) (h1 : Ints w g1 o1 L1) (h2 : Ints w g2 o2 L2) (hg1 : g1 < w.heap.size) (hg2 : g2 < w.heap.size) (k1 : KeysBd L1) (k2 : KeysBd L2) (p1 : 0 < L1.length) (p2 : 0 < L2.length) :
  Calls Tryz.prog 101 #[.slice (some ⟨g1, o1, none⟩) L1.length c1, .slice (some ⟨g2, o2, none⟩) L2.length c2] w fun e w' => ∃ b1 b2 : Nat, e = .returned (.agg #[.slice (some ⟨b1, 0, none⟩) L1.length L1.length, .slice (some ⟨b2, 0, none⟩) L2.length L2.length]) ∧ w.heap.size ≤ b1 ∧ w.heap.size ≤ b2 ∧ BookAt w' b1 L1 ∧ BookAt w' b2 L2 ∧ Step (fun _ => False) w w' := by
 go_enter Tryz.func101, Tryz.ntmps101
 go_wp2_with fail
 obtain ⟨w1, hw1⟩ : ∃ w1, w1 = w.alloc (.cells #[.slice none 0 0, .slice none 0 0] 152) := ⟨_, rfl⟩
 have hs1 : Step (fun _ => False) w w1 := by rw [hw1]; exact (Step.refl _ _).alloc _
 have hr1 : w1.heap[w.heap.size]? = some (.cells #[.slice none 0 0, .slice none 0 0] 152 (0, 0)) := by rw [hw1]; exact heap_alloc_new _ _
 have hz1 : w1.heap.size = w.heap.size + 1 := by rw [hw1]; simp
 rw [← hw1]
 clear hw1
 refine (newBook_ok g1 o1 c1 L1 w1 (h1.step hs1 (fun x => x)) (by omega) k1 p1).mono ?_
 rintro e w2 ⟨b1, rfl, hb1, hk1, hs2⟩
 have hz2 := hs2.size
 have HC := hide (newBook_ok g2 o2 c2 L2 w2 ((h2.step hs1 (fun x => x)).step hs2 (fun x => x)) (by omega) k2 p2)
 have HK1 := hide (show BookAt w2 b1 L1 from hk1)
 have hr2 := hs2.at_ hr1 (fun x => x)
 have hs12 := hs1.trans hs2
 clear hk1 h1 h2 k1 k2 hs1 hr1
 go_wp2_with fail
 refine (unhide HC).mono ?_
 rintro e w3 ⟨b2, rfl, hb2, hk2, hs3⟩
 have HK2 := hide (show BookAt w3 b2 L2 from hk2)
 have hr3 := hs3.at_ hr2 (fun x => x)
 obtain ⟨r0, r1, f0, f1⟩ := blk_two hr3
 have HK3 := hide (show BookAt w3 b1 L1 from hs3.at_ (unhide HK1) (fun x => x))
 have hs13 := hs12.trans hs3
 have hz3 := hs3.size
 clear hk2 HC HK1 hs3 hr2
 go_wp2_with fail
 refine bodyPost_ret (v := .agg #[.slice (some ⟨b1, 0, none⟩) L1.length L1.length, .slice (some ⟨b2, 0, none⟩) L2.length L2.length]) (by simp [results, Tryz.results101, go_sem, r0, r1]) rfl ⟨b1, b2, rfl, by omega, by omega, ?_, ?_, ?_⟩
 ·exact (((Below.heap_setCell _ _ _ _ (by simp; omega)).trans (Below.heap_setCell _ _ _ _ (by simp; omega)))).trans (unhide HK3)
 ·exact (((Below.heap_setCell _ _ _ _ (by simp; omega)).trans (Below.heap_setCell _ _ _ _ (by simp; omega)))).trans (unhide HK2)
 ·exact (hs13.setNew (by simp) _).setNew (by simp) _
end Go.Proofs.YtbpahojchgpdnaaGreatDoor
