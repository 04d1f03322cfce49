/- Proved here: two readers side by side, one of which gets a text in pieces; no walk of the law. -/
import Derived.Test.YtbpahojchgpdnaaGreatDoorLawR
import Derived.Deep.LoopGhost
import Derived.Deep.DeepCutAuto
import Derived.Test.YtbpahojchgpdnaaGreatDoorNames
set_option maxRecDepth 20000
set_option maxHeartbeats 4000000
namespace Go.Proofs.YtbpahojchgpdnaaGreatDoor
open Go.RowKit Go.Bel
theorem strOf_add (a b : List Nat) : strOf (a ++ b) = strOf a ++ strOf b := by
 unfold strOf strOfNums
 apply ByteArray.ext
 simp
theorem Rd.full {k most : Nat} {w : World} {Rb : Nat} {B pre : List Nat} {e used : Nat} {nm : List Nat} {Own : Nat → Prop} (h : Rd k most w Rb B pre e used nm Own) (he : e ≠ 3) (Y : List Nat) : rAll k (B ++ Y) most e pre used nm := by
 rcases h with ⟨x, _⟩ | h
 ·exact absurd x he
 ·exact h.all Y
theorem str_src (w : World) (s : ByteArray) (cap : Nat) (fr : Nat × Nat) (hs : s.size ≤ 1048576) : Go.Bel.Src (w.drew.alloc (.cells (bytesRow s cap) 5 fr)) w.heap.size 0 (bytesOf s) := by
 refine ⟨fun i hi => ?_, fun i => ?_, by rw [bytesOf_length]; omega⟩
 ·rw [bytesOf_length] at hi
  rw [Nat.zero_add]
  have h1 := World.cell?_alloc_mark w.drew (bytesRow s cap) 5 fr i
  refine h1.trans ?_
  rw [bytesRow_at s cap i hi]
  have hi2 : i < s.data.size := hi
  congr 2
  simp [bytesOf, Array.getElem?_eq_getElem hi2]
 ·by_cases hi : i < (bytesOf s).length
  ·rw [List.getElem?_eq_getElem hi]
   exact bytesOf_lt s _ (List.getElem_mem hi)
  ·rw [List.getElem?_eq_none (by omega)]
   decide
structure PcI (w0 w : World) (k most Rx Ry R1 : Nat) (v1 : Value) (B : List Nat) (E : Nat) (OUT : List Nat) (USED : Nat) (NM : List Nat) (j i : Nat) (so : ByteArray) (vo : Value) (ys : List Nat) : Prop where
 ex : ∃ (pre : List Nat) (e used : Nat) (nm : List Nat) (OX : Nat → Prop) (By py : List Nat) (ey uy : Nat) (ny : List Nat) (OY : Nat → Prop), Rd k most w Rx (B.take j) pre e used nm OX ∧ Rd k most w Ry By py ey uy ny OY ∧ (By.length ≤ 2 * i ∧ AllB By) ∧ (∀ b, OX b → ¬ OY b ∧ w0.heap.size ≤ b ∧ b ≠ R1 ∧ v1.ownBlock ≠ some b) ∧ (∀ b, OY b → w0.heap.size ≤ b ∧ b ≠ R1 ∧ v1.ownBlock ≠ some b) ∧ so = strOf pre ∧ ∀ b, vo.ownBlock = some b → ¬ OX b ∧ ¬ OY b
 blk : w.heap[R1]? = some (.cells #[.int .i64 (E : Nat), v1, .int .i64 (USED : Nat), .string (baOf NM)] 45 (0, 0))
 row : Taken w w0.heap.size vo ys
 own : w.ownsRow w0.heap.size 5 1 v1 OUT.length (u8s OUT)
 all : rAll k B most E OUT USED NM
 step : Step (fun _ => False) w0 w
variable {w0 w W : World} {k most Rx Ry R1 : Nat} {v1 : Value} {B : List Nat} {E : Nat} {OUT : List Nat} {USED : Nat} {NM : List Nat} {j i : Nat} {so : ByteArray} {vo : Value} {ys : List Nat}
theorem PcI.step0 (h : PcI w0 w k most Rx Ry R1 v1 B E OUT USED NM j i so vo ys) (st : Step (fun _ => False) w W) : PcI w0 W k most Rx Ry R1 v1 B E OUT USED NM j i so vo ys := by
 obtain ⟨pre, e, used, nm, OX, By, py, ey, uy, ny, OY, a, b, c⟩ := h.ex
 exact ⟨⟨pre, e, used, nm, OX, By, py, ey, uy, ny, OY, a.frame st (fun _ x => x.elim), b.frame st (fun _ x => x.elim), c⟩, st.at_ h.blk (fun x => x), taken_step h.row st (fun _ _ x => x), ownsRow_of_block h.own fun b hb => st.block b (h.own.lt b hb).2 (fun x => x), h.all, h.step.trans st⟩
theorem PcI.drop (h : PcI w0 w k most Rx Ry R1 v1 B E OUT USED NM j i so vo ys) : PcI w0 w k most Rx Ry R1 v1 B E OUT USED NM j i so (.slice none 0 0) [] := by
 obtain ⟨pre, e, used, nm, OX, By, py, ey, uy, ny, OY, a, b, c, d, f, g, _⟩ := h.ex
 exact ⟨⟨pre, e, used, nm, OX, By, py, ey, uy, ny, OY, a, b, c, d, f, g, fun b hb => by simp [Value.ownBlock] at hb⟩, h.blk, World.ownsRow_nil _ _ _ _, h.own, h.all, h.step⟩
theorem fed_some {gm n : Nat} {cm : Nat} : Value.slice (some ⟨gm, 0, none⟩) n cm = .slice (fedA gm 0 n) n cm := by rw [fedA_at (by omega)]
theorem pc_x (h : PcI w0 W k most Rx Ry R1 v1 B E OUT USED NM j i so vo ys) (hk : k ≤ 2) (hm : most ≤ 1048576) (hB : AllB B) (hL : B.length ≤ 1048576) (gm cm j' : Nat) (M : List Nat) (hM : Go.Bel.Src W gm 0 M) (hj : B.take j ++ M = B.take j') :
  Calls Tryz.prog 29 #[.pointer (some ⟨Rx, 0, none⟩), .slice (some ⟨gm, 0, none⟩) M.length cm] W fun r w' => ∃ (va : Option Addr) (len vc x : Nat) (ys : List Nat), r = .returned (.tuple #[.slice va len vc, .int .i64 (x : Nat)]) ∧ len = ys.length ∧ (x = 0 ∨ x = E) ∧ PcI w0 w' k most Rx Ry R1 v1 B E OUT USED NM j' i (so ++ strOf ys) (.slice va len vc) ys := by
 obtain ⟨pre, e, used, nm, OX, By, py, ey, uy, ny, OY, a, b, c, d, f, g, _⟩ := h.ex
 rw [fed_some]
 refine (write_ok a gm 0 cm M hM (fun x => by omega) (by rw [hj]; exact hB.take j') (by rw [hj, List.length_take]; omega) hm).mono ?_
 rintro r w' ⟨vo, e', ys, rfl, hw⟩
 obtain ⟨used', nm', OX', b1, b2, b3⟩ := hw.rd
 obtain ⟨S, c1, c2⟩ := hw.step
 obtain ⟨va, vc, hv⟩ := hw.row.slice
 rw [hj] at b1
 refine ⟨va, ys.length, vc, _, ys, by rw [hv], rfl, ?_, ⟨pre ++ ys, e', used', nm', OX', By, py, ey, uy, ny, OY, b1, b.frame c1 (fun q hq _ => ⟨(a.lt (c2 q hq).1).1, (d q (c2 q hq).1).1, (c2 q hq).2.b⟩), c, fun q hq => ?_, f, by rw [g, strOf_add], fun q hq => ⟨b3 q (by rw [hv]; exact hq), fun z => ?_⟩⟩, c1.at_ h.blk (fun x => (d _ (c2 _ x).1).2.2.1 rfl), by rw [← hv]; exact hw.row.mono (by have := h.step.size; omega), ownsRow_of_block h.own fun q hq => c1.block q (h.own.lt q hq).2 (fun x => (d q (c2 q x).1).2.2.2 hq), h.all, h.step.trans' c1 (fun q hq x => by have := (d q (c2 q x).1).2.1; omega)⟩
 ·by_cases he : e' = 3
  ·rw [if_pos he]; exact .inl rfl
  ·rw [if_neg he]
   have h9 := b1.full he (B.drop j')
   rw [List.take_append_drop] at h9
   exact .inr (rAll_one hk B most _ _ _ _ _ _ _ _ h9 h.all).1
 ·rcases b2 q hq with y | y
  ·exact d q y
  ·have hz := h.step.size
   have := lt_of_block h.blk
   exact ⟨fun z => by have := (b.lt z).2; omega, by omega, by omega, fun z => by have := (h.own.lt q z).2; omega⟩
 ·have h1 := (hw.row.lt q (by rw [hv]; exact hq)).1
  have h2 := (b.lt z).2
  omega
theorem pc_y (h : PcI w0 W k most Rx Ry R1 v1 B E OUT USED NM j i so vo ys) (hm : most ≤ 1048576) (hi : i ≤ 1048576) (gm cm : Nat) (hM : Go.Bel.Src W gm 0 [3, 0]) :
  Calls Tryz.prog 29 #[.pointer (some ⟨Ry, 0, none⟩), .slice (some ⟨gm, 0, none⟩) 2 cm] W fun r w' => ∃ (va : Option Addr) (len vc x : Nat), r = .returned (.tuple #[.slice va len vc, .int .i64 (x : Nat)]) ∧ PcI w0 w' k most Rx Ry R1 v1 B E OUT USED NM j (i + 1) so vo ys := by
 obtain ⟨pre, e, used, nm, OX, By, py, ey, uy, ny, OY, a, b, c, d, f, g, hx⟩ := h.ex
 have hab : AllB (By ++ [3, 0]) := c.2.append (fun y hy => by simp at hy; omega)
 have hc := write_ok b gm 0 cm [3, 0] hM (fun x => by omega) hab (by rw [List.length_append]; simp; omega) hm
 rw [fed_some]
 refine hc.mono ?_
 rintro r w' ⟨vy, e', yy, rfl, hw⟩
 obtain ⟨used', nm', OY', b1, b2, b3⟩ := hw.rd
 obtain ⟨S, c1, c2⟩ := hw.step
 obtain ⟨va, vc, hv⟩ := hw.row.slice
 have hz := h.step.size
 have hRl := lt_of_block h.blk
 refine ⟨va, yy.length, vc, _, by rw [hv], ⟨pre, e, used, nm, OX, By ++ [3, 0], py ++ yy, e', used', nm', OY', a.frame c1 (fun q hq _ => ⟨(b.lt (c2 q hq).1).1, fun z => (d q z).1 (c2 q hq).1, (c2 q hq).2.b⟩), b1, ⟨by rw [List.length_append]; simp; omega, hab⟩, fun q hq => ⟨fun z => ?_, (d q hq).2⟩, fun q hq => ?_, g, fun q hq => ⟨(hx q hq).1, fun z => ?_⟩⟩, c1.at_ h.blk (fun x => (f _ (c2 _ x).1).2.1 rfl), taken_step h.row c1 (fun q hq x => (hx q hq).2 (c2 q x).1), ownsRow_of_block h.own fun q hq => c1.block q (h.own.lt q hq).2 (fun x => (f q (c2 q x).1).2.2 hq), h.all, h.step.trans' c1 (fun q hq x => by have := (f q (c2 q x).1).1; omega)⟩
 ·rcases b2 q z with y | y
  ·exact (d q hq).1 y
  ·have := (a.lt hq).2; omega
 ·rcases b2 q hq with y | y
  ·exact f q y
  ·exact ⟨by omega, by omega, fun z => by have := (h.own.lt q z).2; omega⟩
 ·rcases b2 q z with y | y
  ·exact (hx q hq).2 y
  ·have := (h.row.lt q hq).2; omega
theorem pc_last (h : PcI w0 W k most Rx Ry R1 v1 B E OUT USED NM j i so vo ys) (hk : k ≤ 2) (hm : most ≤ 1048576) (hB : AllB B) (hL : B.length ≤ 1048576) (hj : B.take j = B) :
  Calls Tryz.prog 29 #[.pointer (some ⟨Rx, 0, none⟩), .slice none 0 0] W fun r w' => ∃ (va : Option Addr) (vc x : Nat) (a b : Option Addr), r = .returned (.tuple #[.slice va 0 vc, .int .i64 (x : Nat)]) ∧ x = (if E = 3 then 0 else E) ∧ so = strOf OUT ∧ RdB w' Rx a b (E : Nat) (USED : Nat) (baOf NM) ∧ w'.heap[R1]? = some (.cells #[.int .i64 (E : Nat), v1, .int .i64 (USED : Nat), .string (baOf NM)] 45 (0, 0)) ∧ w'.ownsRow w0.heap.size 5 1 v1 OUT.length (u8s OUT) ∧ Step (fun _ => False) w0 w' := by
 obtain ⟨pre, e, used, nm, OX, By, py, ey, uy, ny, OY, a, b, c, d, f, g, hx⟩ := h.ex
 rw [hj] at a
 have hsrc : Go.Bel.Src W 0 4611686018427387904 [] := ⟨fun i hi => by simp at hi, fun i => by simp, by simp⟩
 have hc := write_ok a 0 4611686018427387904 0 [] hsrc (fun _ => rfl) (by rw [List.append_nil]; exact hB) (by rw [List.append_nil]; omega) hm
 rw [List.length_nil, fedA_none] at hc
 refine hc.mono ?_
 rintro r w' ⟨vy, e', yy, rfl, hw⟩
 obtain ⟨used', nm', OX', b1, b2, b3⟩ := hw.rd
 obtain ⟨S, c1, c2⟩ := hw.step
 obtain ⟨va, vc, hv⟩ := hw.row.slice
 rw [List.append_nil] at b1
 obtain ⟨_, o1, _, _⟩ := rAll_one hk B most _ _ _ _ _ _ _ _ a.answer h.all
 obtain ⟨rfl, o2, rfl, rfl⟩ := rAll_one hk B most _ _ _ _ _ _ _ _ b1.answer h.all
 have hyy : yy = [] := by
  rw [← o1] at o2
  exact List.append_cancel_left (o2.trans (List.append_nil pre).symm)
 subst hyy
 obtain ⟨ra, rb, hRb⟩ := b1.blk
 exact ⟨va, vc, _, ra, rb, by rw [hv]; rfl, rfl, by rw [g, o1], hRb, c1.at_ h.blk (fun x => (d _ (c2 _ x).1).2.2.1 rfl), ownsRow_of_block h.own fun q hq => c1.block q (h.own.lt q hq).2 (fun x => (d q (c2 q x).1).2.2.2 hq), h.step.trans' c1 (fun q hq x => by have := (d q (c2 q x).1).2.1; omega)⟩
end Go.Proofs.YtbpahojchgpdnaaGreatDoor
namespace Go.Proofs.YtbpahojchgpdnaaGreatDoor
open Go.RowKit Go.Bel
def pLoops : Code → List Code
 | .loop c => .loop c :: pLoops c
 | .seq a b => pLoops a ++ pLoops b
 | .block _ c => pLoops c
 | .scope c => pLoops c
 | .cond _ a b => pLoops a ++ pLoops b
 | _ => []
noncomputable def pLoop (fn : Func) (i : Nat) : Code := ((fn.body.map pLoops).getD [])[i]?.getD .skip
def IvIn (w : World) (a : Option Addr) (cs : List Int) : Prop := ∀ (i : Nat) (c : Int), cs[i]? = some c → ∃ b off, a = some ⟨b, off, none⟩ ∧ w.cell? ⟨b, off + i, none⟩ = some (.int .i64 c) ∧ -9223372036854775808 ≤ c ∧ c ≤ 9223372036854775807
theorem bytesOf_mid (b : ByteArray) (i j : Nat) : bytesOf (b.extract i j) = ((bytesOf b).drop i).take (j - i) := by
 unfold bytesOf
 rw [ByteArray.data_extract, Array.toList_extract, List.extract_eq_take_drop]
 simp [List.map_take, List.map_drop]
theorem slice_mid (b : ByteArray) (i j : Nat) (h0 : i ≤ j) (h : j ≤ b.size) (W : World) : (Instr.slice 9 (.string b) (some (.int .i64 (i : Int))) (some (.int .i64 (j : Int))) none).run Tryz.prog W = .ok (.string (b.extract i j)) W := by
 have hu := Tryz.underlying9
 have h1 : (i : Int) ≤ (j : Int) := by omega
 have h2 : (j : Int) ≤ (b.size : Int) := by omega
 simp [Instr.slice, Instr.sliceBounds, Instr.sliceBound, asIntOf, run_underlying hu, h, h0]
theorem src_two (w : World) : Go.Bel.Src (w.alloc (.cells #[.int .u8 3, .int .u8 0] 5 (2, 3))) w.heap.size 0 [3, 0] := by
 refine ⟨fun i hi => ?_, fun i => ?_, by decide⟩
 ·rw [Nat.zero_add]
  have h1 := World.cell?_alloc_mark w #[.int .u8 3, .int .u8 0] 5 (2, 3) i
  refine h1.trans ?_
  have h2 : i = 0 ∨ i = 1 := by simp at hi; omega
  rcases h2 with rfl | rfl <;> rfl
 ·match i with
  | 0 => decide
  | 1 => decide
  | n + 2 => simp
theorem take_mid (B : List Nat) (i j : Nat) (h : i ≤ j) : B.take i ++ (B.drop i).take (j - i) = B.take j := by
 obtain ⟨n, rfl⟩ : ∃ n, j = i + n := ⟨j - i, by omega⟩
 rw [Nat.add_sub_cancel_left, List.take_add]
theorem PcI.small {w0 w : World} {k most Rx Ry R1 : Nat} {v1 : Value} {B : List Nat} {E : Nat} {OUT : List Nat} {USED : Nat} {NM : List Nat} {j i : Nat} {so : ByteArray} {vo : Value} {ys : List Nat} (h : PcI w0 w k most Rx Ry R1 v1 B E OUT USED NM j i so vo ys) (hk : k ≤ 2) : so.size ≤ most := by
 obtain ⟨pre, e, used, nm, OX, By, py, ey, uy, ny, OY, a, b, c, d, f, g, _⟩ := h.ex
 rw [g, str_size]
 exact rAll_len hk a.answer
set_option maxRecDepth 100000 in
theorem pieces_loop (s : ByteArray) (ca : Option Addr) (cs : List Int) (cap k most Rx Ry R1 E USED : Nat) (v1 : Value) (OUT NM : List Nat) (w0 wA : World) (hk : k ≤ 2) (hm : most ≤ 1048576) (hs : s.size ≤ 1048576) (hcs : cs.length ≤ 1048576) (hiv : IvIn w0 ca cs) (h0 : PcI w0 wA k most Rx Ry R1 v1 (bytesOf s) E OUT USED NM 0 0 ⟨#[]⟩ (.slice none 0 0) []) (Q0 : Exit → Act → World → Prop)
  (fr0 fr2 fr4 fr5 fr6 fr7 fr8 fr9 fr10 fr12 fr14 fr19 fr20 fr21 fr22 fr23 fr24 fr25 fr26 fr27 fr28 fr29 fr30 fr31 fr32 fr33 fr34 fr35 fr36 fr37 fr38 fr39 fr40 fr41 fr42 fr43 fr44 fr45 fr46 fr47 fr48 fr49 fr50 fr51 fr52 fr53 fr54 fr55 fr56 fr57 fr58 fr59 fr60 fr61 fr62 fr63 fr64 fr65 fr66 fr67 fr68 fr69 fr70 fr71 fr72 fr73 fr74 fr75 fr76 fr77 fr78 fr79 fr80 fr81 fr82 fr83 fr84 fr85 fr86 fr87 fr88 fr89 fr90 fr91 fr92 fr93 fr94 fr95 fr96 fr97 fr98 fr99 fr100 fr101 fr102 fr103 fr104 fr105 fr106 fr107 fr108 fr109 fr110 fr111 fr112 fr113 fr114 fr115 fr116 fr117 fr118 fr119 fr120 fr121 fr122 fr123 fr124 fr125 fr126 fr127 fr128 fr129 fr130 fr131 fr132 fr133 fr134 fr135 fr136 fr137 fr138 fr139 fr140 fr141 fr142 fr143 fr144 fr145 fr146 fr147 fr148 fr149 fr150 fr151 fr152 fr153 fr154 fr155 fr156 fr157 fr158 fr159 fr160 fr161 fr162 fr163 fr164 fr165 fr166 : Value)
  (hexit : ∀ (x8 x18 x19 x20 x21 x66 x67 x68 x69 x70 x71 x72 x73 x74 x75 x76 x77 x78 x79 x80 x81 x82 x83 x84 x85 x86 x87 x88 x89 x90 x91 x92 x93 x94 x95 x96 x97 x98 x99 x100 x101 x102 x103 x104 x105 x106 x107 x108 x109 x110 x111 x112 x113 x114 x115 x116 : Value) (j i : Nat) (so : ByteArray) (wr : World), (bytesOf s).take j = bytesOf s → PcI w0 wr k most Rx Ry R1 v1 (bytesOf s) E OUT USED NM j i so (.slice none 0 0) [] → Q0 (.exit 0) ⟨(List.toArray (fr0 :: (.string s) :: fr2 :: (.slice ca cs.length cap) :: fr4 :: fr5 :: fr6 :: fr7 :: x8 :: fr9 :: fr10 :: (.pointer (some ⟨Rx, 0, none⟩)) :: fr12 :: (.pointer (some ⟨Ry, 0, none⟩)) :: fr14 :: (.pointer (some ⟨R1, 0, none⟩)) :: (.string so) :: (.int .i64 (j : Nat)) :: x18 :: x19 :: x20 :: x21 :: fr22 :: fr23 :: fr24 :: fr25 :: fr26 :: fr27 :: fr28 :: fr29 :: fr30 :: fr31 :: fr32 :: fr33 :: fr34 :: fr35 :: fr36 :: fr37 :: fr38 :: fr39 :: fr40 :: fr41 :: fr42 :: fr43 :: fr44 :: fr45 :: fr46 :: fr47 :: fr48 :: fr49 :: fr50 :: fr51 :: fr52 :: fr53 :: fr54 :: fr55 :: fr56 :: fr57 :: fr58 :: fr59 :: fr60 :: fr61 :: fr62 :: fr63 :: fr64 :: fr65 :: x66 :: x67 :: x68 :: x69 :: x70 :: x71 :: x72 :: x73 :: x74 :: x75 :: x76 :: x77 :: x78 :: x79 :: x80 :: x81 :: x82 :: x83 :: x84 :: x85 :: x86 :: x87 :: x88 :: x89 :: x90 :: x91 :: x92 :: x93 :: x94 :: x95 :: x96 :: x97 :: x98 :: x99 :: x100 :: x101 :: x102 :: x103 :: x104 :: x105 :: x106 :: x107 :: x108 :: x109 :: x110 :: x111 :: x112 :: x113 :: x114 :: x115 :: x116 :: fr117 :: fr118 :: fr119 :: fr120 :: fr121 :: fr122 :: fr123 :: fr124 :: fr125 :: fr126 :: fr127 :: fr128 :: fr129 :: fr130 :: fr131 :: fr132 :: fr133 :: fr134 :: fr135 :: fr136 :: fr137 :: fr138 :: fr139 :: fr140 :: fr141 :: fr142 :: fr143 :: fr144 :: fr145 :: fr146 :: fr147 :: fr148 :: fr149 :: fr150 :: fr151 :: fr152 :: fr153 :: fr154 :: fr155 :: fr156 :: fr157 :: fr158 :: fr159 :: fr160 :: fr161 :: fr162 :: fr163 :: fr164 :: fr165 :: fr166 :: [])), []⟩ wr) :
  (pLoop Tryz.f12 0).wp Tryz.prog Q0 ⟨(List.toArray (fr0 :: (.string s) :: fr2 :: (.slice ca cs.length cap) :: fr4 :: fr5 :: fr6 :: fr7 :: fr8 :: fr9 :: fr10 :: (.pointer (some ⟨Rx, 0, none⟩)) :: fr12 :: (.pointer (some ⟨Ry, 0, none⟩)) :: fr14 :: (.pointer (some ⟨R1, 0, none⟩)) :: (.string ⟨#[]⟩) :: (.int .i64 0) :: (.int .i64 0) :: fr19 :: fr20 :: fr21 :: fr22 :: fr23 :: fr24 :: fr25 :: fr26 :: fr27 :: fr28 :: fr29 :: fr30 :: fr31 :: fr32 :: fr33 :: fr34 :: fr35 :: fr36 :: fr37 :: fr38 :: fr39 :: fr40 :: fr41 :: fr42 :: fr43 :: fr44 :: fr45 :: fr46 :: fr47 :: fr48 :: fr49 :: fr50 :: fr51 :: fr52 :: fr53 :: fr54 :: fr55 :: fr56 :: fr57 :: fr58 :: fr59 :: fr60 :: fr61 :: fr62 :: fr63 :: fr64 :: fr65 :: fr66 :: fr67 :: fr68 :: fr69 :: fr70 :: fr71 :: fr72 :: fr73 :: fr74 :: fr75 :: fr76 :: fr77 :: fr78 :: fr79 :: fr80 :: fr81 :: fr82 :: fr83 :: fr84 :: fr85 :: fr86 :: fr87 :: fr88 :: fr89 :: fr90 :: fr91 :: fr92 :: fr93 :: fr94 :: fr95 :: fr96 :: fr97 :: fr98 :: fr99 :: fr100 :: fr101 :: fr102 :: fr103 :: fr104 :: fr105 :: fr106 :: fr107 :: fr108 :: fr109 :: fr110 :: fr111 :: fr112 :: fr113 :: fr114 :: fr115 :: fr116 :: fr117 :: fr118 :: fr119 :: fr120 :: fr121 :: fr122 :: fr123 :: fr124 :: fr125 :: fr126 :: fr127 :: fr128 :: fr129 :: fr130 :: fr131 :: fr132 :: fr133 :: fr134 :: fr135 :: fr136 :: fr137 :: fr138 :: fr139 :: fr140 :: fr141 :: fr142 :: fr143 :: fr144 :: fr145 :: fr146 :: fr147 :: fr148 :: fr149 :: fr150 :: fr151 :: fr152 :: fr153 :: fr154 :: fr155 :: fr156 :: fr157 :: fr158 :: fr159 :: fr160 :: fr161 :: fr162 :: fr163 :: fr164 :: fr165 :: fr166 :: [])), []⟩ wA := by
 conv => arg 2; whnf
 have HX := hide hexit
 have H0 := hide h0
 have HIV := hide hiv
 clear hexit h0 hiv
 go_loopg [16, 17, 18] (cs.length + 1) (fun q u16 u17 u18 wr => ∃ (i j : Nat) (so : ByteArray), u16 = .string so ∧ u17 = .int .i64 (j : Nat) ∧ u18 = .int .i64 (i : Nat) ∧ q + i = cs.length + 1 ∧ j ≤ s.size ∧ (i = cs.length + 1 → j = s.size) ∧ PcI w0 wr k most Rx Ry R1 v1 (bytesOf s) E OUT USED NM j i so (.slice none 0 0) [])
 case atStart => exact ⟨0, 0, _, rfl, rfl, rfl, by omega, by omega, fun x => by omega, unhide H0⟩
 case round =>
  clear H0
  obtain ⟨i, j, so, rfl, rfl, rfl, hq, hj, hji, hm0⟩ := hrel
  have HM := hide hm0
  have hst0 := hm0.step
  clear hm0
  by_cases hle : i ≤ cs.length
  ·have hle' : (i : Int) ≤ (cs.length : Int) := by omega
   go_upto_if 77 with fail
   go_cut [19] from 66 to 116 (fun t wd => ∃ j' : Nat, t = .int .i64 (j' : Nat) ∧ j ≤ j' ∧ j' ≤ s.size ∧ (i = cs.length → j' = s.size) ∧ wd = wr)
   case first =>
    by_cases hlt : i < cs.length
    ·have hlt' : (i : Int) < (cs.length : Int) := by omega
     have hi0 : (0 : Int) ≤ (i : Int) := by omega
     obtain ⟨cb, co, rfl, hc1, hc2, hc3⟩ := unhide HIV i cs[i] (List.getElem?_eq_getElem hlt)
     have hcell := hst0.cell hc1 (fun x => x)
     obtain ⟨p, hp, hpk⟩ := pick_ex cs[i] (s.size - j + 1) hc2 hc3 (by omega) (by omega)
     have e1 : (((s.size - j + 1 : Nat)) : Int) = ((s.size : Int) - (j : Int)) + 1 := by omega
     rw [e1] at hpk
     have HPK := hide hpk
     clear hpk e1 hc1
     go_wp2_with fail
     refine (unhide HPK _).mono ?_
     rintro r wq ⟨rfl, hwq⟩
     rw [hwq]
     clear hwq wq HPK
     go_wp2_with fail
     go_meet
     exact ⟨j + p, by go_num, by omega, by omega, fun x => by omega, rfl⟩
    ·have hlt' : ¬ (i : Int) < (cs.length : Int) := by omega
     go_wp2_with fail
     go_meet
     exact ⟨s.size, rfl, hj, Nat.le_refl _, fun _ => rfl, rfl⟩
   case rest =>
    obtain ⟨j', rfl, hj1, hj2, hj3, rfl⟩ := hcut
    have hsl := fun W => slice_mid s j j' hj1 hj2 W
    obtain ⟨t, ht⟩ : ∃ t, t = s.extract j j' := ⟨_, rfl⟩
    rw [← ht] at hsl
    have htb : bytesOf t = ((bytesOf s).drop j).take (j' - j) := by rw [ht]; exact bytesOf_mid s j j'
    have hts : t.size ≤ 1048576 := by
     rw [ht, ByteArray.size_extract]; omega
    have hconv := conv_str wc t
    obtain ⟨kc, hkc⟩ : ∃ kc, kc = grownCap wc t.size 0 5 := ⟨_, rfl⟩
    rw [← hkc] at hconv
    have hsrc := str_src wc t kc ((bytesRow t kc).size, (bytesRow t kc).size + 1) hts
    have hst1 := str_step wc (.cells (bytesRow t kc) 5 ((bytesRow t kc).size, (bytesRow t kc).size + 1))
    obtain ⟨w1, hw1⟩ : ∃ w1, w1 = wc.drew.alloc (.cells (bytesRow t kc) 5 ((bytesRow t kc).size, (bytesRow t kc).size + 1)) := ⟨_, rfl⟩
    rw [← hw1] at hconv hsrc hst1
    have hx := pc_x ((unhide HM).step0 hst1) hk hm (fun y hy => bytesOf_lt s y hy) (by rw [bytesOf_length]; omega) wc.heap.size kc j' (bytesOf t) hsrc (by rw [htb]; exact take_mid _ _ _ hj1)
    rw [bytesOf_length] at hx
    have HXC := hide hx
    clear hx hw1 hkc ht htb hsrc hst1
    go_upto_region 17 with (first
     | (go_at_call 29; refine (unhide HXC).mono ?_; rintro r w2 ⟨va, len, vc, x, ys, rfl, hlen, hxe, hm2⟩; have HX2 := hide (And.intro hlen (And.intro hxe hm2)); clear hlen hxe hm2))
    obtain ⟨hlen, hxe, hm2⟩ := unhide HX2
    clear HX2 HXC hconv hsl
    have hconv2 := Lib.run_convert_bytes_const (P := Tryz.prog) w2 31 5 #[.int .u8 3, .int .u8 0] 2 2 Tryz.underlying31 Tryz.underlying5
    have hy : Calls Tryz.prog 29 #[.pointer (some ⟨Ry, 0, none⟩), .slice (some ⟨w2.heap.size, 0, none⟩) 2 2] (w2.alloc (.cells #[.int .u8 3, .int .u8 0] 5 (2, 3))) fun r w' => ∃ (va' : Option Addr) (len' vc' x' : Nat), r = .returned (.tuple #[.slice va' len' vc', .int .i64 (x' : Nat)]) ∧ PcI w0 w' k most Rx Ry R1 v1 (bytesOf s) E OUT USED NM j' (i + 1) (so ++ strOf ys) (.slice va len vc) ys :=
     pc_y (hm2.step0 ((Step.refl _ _).alloc _)) hm (by omega) w2.heap.size 2 (src_two w2)
    have HY := hide hy
    have HM2 := hide hm2
    clear hy hm2
    go_wp2_with fail
    refine (unhide HY).mono ?_
    rintro r w3 ⟨va', len', vc', x', rfl, hm3⟩
    have hcv := conv_row hm3.row
    have hsm := hm3.small hk
    have hsm2 : ¬ (9223372036854775807 : Int) < (so.size : Int) + ((strOf ys).size : Int) := by
     rw [ByteArray.size_append] at hsm; omega
    have hblk := hm3.blk
    have hbl := lt_of_block hblk
    have hr0 := blk_cell hblk 0 _ rfl
    have HM3 := hide hm3
    clear hlen
    clear hm3 hblk HY HM2 hconv2
    have hx2 : x = 0 ∨ (x = E ∧ x ≠ 0) := by omega
    clear hxe
    rcases hx2 with rfl | ⟨rfl, hx0⟩
    ·go_wp2_with fail
     go_roundg (gk - 1)
     case measure => omega
     case rel => exact ⟨i + 1, j', _, rfl, rfl, by go_num, by omega, hj2, fun x => hj3 (by omega), (unhide HM3).drop⟩
    ·have hx0' : ¬ (x : Int) = 0 := by omega
     go_wp2_with fail
     go_roundg (gk - 1)
     case measure => omega
     case rel => exact ⟨i + 1, j', _, rfl, rfl, by go_num, by omega, hj2, fun x => hj3 (by omega), (unhide HM3).drop⟩
  ·have hle' : ¬ (i : Int) ≤ (cs.length : Int) := by omega
   have HX2 := unhide HX
   have hjj : (bytesOf s).take j = bytesOf s := List.take_of_length_le (by rw [bytesOf_length]; have := hji (by omega); omega)
   clear HX
   go_wp2_with fail
   exact HX2 _ _ _ _ _ _ _ _ _ _ _ _ _ _ _ _ _ _ _ _ _ _ _ _ _ _ _ _ _ _ _ _ _ _ _ _ _ _ _ _ _ _ _ _ _ _ _ _ _ _ _ _ _ _ _ _ j i so wr hjj (unhide HM)
end Go.Proofs.YtbpahojchgpdnaaGreatDoor
namespace Go.Proofs.YtbpahojchgpdnaaGreatDoor
open Go.RowKit Go.Bel
noncomputable def piecesTail : Code := (Tryz.f12.body.bind (codeFrom 22)).getD .skip
set_option maxRecDepth 100000 in
theorem pieces_tail (post : Ending → World → Prop) (s : ByteArray) (k most Rx Ry R1 E USED : Nat) (v1 : Value) (OUT NM : List Nat) (w0 wA : World) (hk : k ≤ 2) (hm : most ≤ 1048576) (hs : s.size ≤ 1048576) (hpost : ∀ w', Step (fun _ => False) w0 w' → post (.returned (.bool true)) w') (j i : Nat) (so : ByteArray) (hj : (bytesOf s).take j = bytesOf s) (h0 : PcI w0 wA k most Rx Ry R1 v1 (bytesOf s) E OUT USED NM j i so (.slice none 0 0) [])
  (fr0 fr1 fr2 fr3 fr4 fr5 fr6 fr7 fr8 fr9 fr10 fr12 fr13 fr14 fr17 fr18 fr19 fr20 fr21 fr22 fr23 fr24 fr25 fr26 fr27 fr28 fr29 fr30 fr31 fr32 fr33 fr34 fr35 fr36 fr37 fr38 fr39 fr40 fr41 fr42 fr43 fr44 fr45 fr46 fr47 fr48 fr49 fr50 fr51 fr52 fr53 fr54 fr55 fr56 fr57 fr58 fr59 fr60 fr61 fr62 fr63 fr64 fr65 fr66 fr67 fr68 fr69 fr70 fr71 fr72 fr73 fr74 fr75 fr76 fr77 fr78 fr79 fr80 fr81 fr82 fr83 fr84 fr85 fr86 fr87 fr88 fr89 fr90 fr91 fr92 fr93 fr94 fr95 fr96 fr97 fr98 fr99 fr100 fr101 fr102 fr103 fr104 fr105 fr106 fr107 fr108 fr109 fr110 fr111 fr112 fr113 fr114 fr115 fr116 fr117 fr118 fr119 fr120 fr121 fr122 fr123 fr124 fr125 fr126 fr127 fr128 fr129 fr130 fr131 fr132 fr133 fr134 fr135 fr136 fr137 fr138 fr139 fr140 fr141 fr142 fr143 fr144 fr145 fr146 fr147 fr148 fr149 fr150 fr151 fr152 fr153 fr154 fr155 fr156 fr157 fr158 fr159 fr160 fr161 fr162 fr163 fr164 fr165 fr166 : Value) :
  piecesTail.wp Tryz.prog (bodyPost Tryz.prog Tryz.f12 post) ⟨(List.toArray (fr0 :: fr1 :: fr2 :: fr3 :: fr4 :: fr5 :: fr6 :: fr7 :: fr8 :: fr9 :: fr10 :: (.pointer (some ⟨Rx, 0, none⟩)) :: fr12 :: fr13 :: fr14 :: (.pointer (some ⟨R1, 0, none⟩)) :: (.string so) :: fr17 :: fr18 :: fr19 :: fr20 :: fr21 :: fr22 :: fr23 :: fr24 :: fr25 :: fr26 :: fr27 :: fr28 :: fr29 :: fr30 :: fr31 :: fr32 :: fr33 :: fr34 :: fr35 :: fr36 :: fr37 :: fr38 :: fr39 :: fr40 :: fr41 :: fr42 :: fr43 :: fr44 :: fr45 :: fr46 :: fr47 :: fr48 :: fr49 :: fr50 :: fr51 :: fr52 :: fr53 :: fr54 :: fr55 :: fr56 :: fr57 :: fr58 :: fr59 :: fr60 :: fr61 :: fr62 :: fr63 :: fr64 :: fr65 :: fr66 :: fr67 :: fr68 :: fr69 :: fr70 :: fr71 :: fr72 :: fr73 :: fr74 :: fr75 :: fr76 :: fr77 :: fr78 :: fr79 :: fr80 :: fr81 :: fr82 :: fr83 :: fr84 :: fr85 :: fr86 :: fr87 :: fr88 :: fr89 :: fr90 :: fr91 :: fr92 :: fr93 :: fr94 :: fr95 :: fr96 :: fr97 :: fr98 :: fr99 :: fr100 :: fr101 :: fr102 :: fr103 :: fr104 :: fr105 :: fr106 :: fr107 :: fr108 :: fr109 :: fr110 :: fr111 :: fr112 :: fr113 :: fr114 :: fr115 :: fr116 :: fr117 :: fr118 :: fr119 :: fr120 :: fr121 :: fr122 :: fr123 :: fr124 :: fr125 :: fr126 :: fr127 :: fr128 :: fr129 :: fr130 :: fr131 :: fr132 :: fr133 :: fr134 :: fr135 :: fr136 :: fr137 :: fr138 :: fr139 :: fr140 :: fr141 :: fr142 :: fr143 :: fr144 :: fr145 :: fr146 :: fr147 :: fr148 :: fr149 :: fr150 :: fr151 :: fr152 :: fr153 :: fr154 :: fr155 :: fr156 :: fr157 :: fr158 :: fr159 :: fr160 :: fr161 :: fr162 :: fr163 :: fr164 :: fr165 :: fr166 :: [])), []⟩ wA := by
 conv => arg 2; whnf
 have HPOST := hide hpost
 have HL := hide (pc_last h0 hk hm (fun y hy => bytesOf_lt s y hy) (by rw [bytesOf_length]; omega) hj)
 clear hpost h0
 go_wp2_with fail
 refine (unhide HL).mono ?_
 rintro r w1 ⟨va, vc, x, ra, rb, rfl, hx, hso, hR, hblk, hown, hst⟩
 subst hso
 obtain ⟨xa, xc, hv1⟩ := own_slice hown
 subst hv1
 have hbl := lt_of_block hblk
 have hd := done_ok w1 Rx E USED ra rb (baOf NM) hR
 have HD := hide hd
 have hRl := lt_of_block hR
 have r0 := blk_cell hblk 0 _ rfl
 have HR := hide hR
 have HB := hide hblk
 have HOW := hide hown
 have HST := hide hst
 clear hd hR hblk hown hst HL
 have hE : E = 0 ∨ E = 3 ∨ (E ≠ 0 ∧ E ≠ 3) := by omega
 rcases hE with rfl | rfl | ⟨hE0, hE3⟩
 ·skip
  rw [if_neg (by decide)] at hx
  subst hx
  go_wp2_with fail
  refine (unhide HD).mono ?_
  rintro r w2 ⟨rfl, hs2⟩
  have hn := name_ok w2 Rx _ _ ra rb (baOf NM) (hs2.at_ (unhide HR) (fun x => x))
  have HN := hide hn
  have hblk := hs2.at_ (unhide HB) (fun x => x)
  have hbl2 := lt_of_block hblk
  have q0 := blk_cell hblk 0 _ rfl
  have q1 := blk_cell hblk 1 _ rfl
  have q2 := blk_cell hblk 2 _ rfl
  have q3 := blk_cell hblk 3 _ rfl
  have how := ownsRow_of_block (unhide HOW) fun q hq => hs2.block q ((unhide HOW).lt q hq).2 (fun x => x)
  have hcv := conv_row how
  have HS2 := hide hs2
  clear hn hblk how hs2
  go_wp2_with fail
  refine (unhide HN).mono ?_
  rintro r wq ⟨rfl, hwq⟩
  rw [hwq]
  clear hwq wq HN
  go_wp2_with fail
  exact unhide HPOST _ ((unhide HST).trans (unhide HS2))
 ·skip
  rw [if_pos rfl] at hx
  subst hx
  go_wp2_with fail
  refine (unhide HD).mono ?_
  rintro r w2 ⟨rfl, hs2⟩
  have hn := name_ok w2 Rx _ _ ra rb (baOf NM) (hs2.at_ (unhide HR) (fun x => x))
  have HN := hide hn
  have hblk := hs2.at_ (unhide HB) (fun x => x)
  have hbl2 := lt_of_block hblk
  have q0 := blk_cell hblk 0 _ rfl
  have q1 := blk_cell hblk 1 _ rfl
  have q2 := blk_cell hblk 2 _ rfl
  have q3 := blk_cell hblk 3 _ rfl
  have how := ownsRow_of_block (unhide HOW) fun q hq => hs2.block q ((unhide HOW).lt q hq).2 (fun x => x)
  have hcv := conv_row how
  have HS2 := hide hs2
  clear hn hblk how hs2
  go_wp2_with fail
  refine (unhide HN).mono ?_
  rintro r wq ⟨rfl, hwq⟩
  rw [hwq]
  clear hwq wq HN
  go_wp2_with fail
  exact unhide HPOST _ ((unhide HST).trans (unhide HS2))
 ·have hE0' : ¬ (E : Int) = 0 := by omega
  have hE3' : ¬ (E : Int) = 3 := by omega
  have hE0b : ((E : Int) == 0) = false := beq_eq_false_iff_ne.2 hE0'
  have hEb : (E == 0) = false := beq_eq_false_iff_ne.2 hE0
  have hE3b : ((E : Int) == 3) = false := beq_eq_false_iff_ne.2 hE3'
  rw [if_neg hE3] at hx
  subst hx
  go_wp2_with fail
  refine (unhide HD).mono ?_
  rintro r w2 ⟨rfl, hs2⟩
  have hn := name_ok w2 Rx _ _ ra rb (baOf NM) (hs2.at_ (unhide HR) (fun x => x))
  have HN := hide hn
  have hblk := hs2.at_ (unhide HB) (fun x => x)
  have hbl2 := lt_of_block hblk
  have q0 := blk_cell hblk 0 _ rfl
  have q1 := blk_cell hblk 1 _ rfl
  have q2 := blk_cell hblk 2 _ rfl
  have q3 := blk_cell hblk 3 _ rfl
  have how := ownsRow_of_block (unhide HOW) fun q hq => hs2.block q ((unhide HOW).lt q hq).2 (fun x => x)
  have hcv := conv_row how
  have HS2 := hide hs2
  clear hn hblk how hs2
  go_wp2_with fail
  refine (unhide HN).mono ?_
  rintro r wq ⟨rfl, hwq⟩
  rw [hwq]
  clear hwq wq HN
  go_wp2_with fail
  exact unhide HPOST _ ((unhide HST).trans (unhide HS2))
end Go.Proofs.YtbpahojchgpdnaaGreatDoor
namespace Go.Proofs.YtbpahojchgpdnaaGreatDoor
open Go.RowKit Go.Bel Go.Maps
set_option maxRecDepth 100000 in
theorem pieces_true (kd : Int) (s : ByteArray) (ms : Int) (ca : Option Addr) (cs : List Int) (cap : Nat) (w : World) (h1 : -9223372036854775808 ≤ kd ∧ kd ≤ 9223372036854775807) (hs : s.size ≤ 1048576) (hcs : cs.length ≤ 1048576) (hiv : IvIn w ca cs) (hO : OrderAt w) (h4 : 4 ≤ w.heap.size) :
  Calls Tryz.prog 12 #[.int .i64 kd, .string s, .int .i64 ms, .slice ca cs.length cap] w fun e w' => e = .returned (.bool true) ∧ Step (fun _ => False) w w' := by
 have HKN := hide (known_ok w hO h4)
 obtain ⟨k, hk, hpk⟩ := pick_ex kd 3 h1.1 h1.2 (by omega) (by omega)
 obtain ⟨E, OUT, USED, NM, hall⟩ := rAll_ex (k := k) (by omega) (bytesOf s) (asked ms)
 have hm := asked_le ms
 have HPK := hide hpk
 have HO := hide hO
 have HIV := hide hiv
 have HALL := hide hall
 clear hpk hO hiv hall
 go_enter Tryz.func12, Tryz.ntmps12
 go_wp2_with fail
 refine (unhide HKN).mono ?_
 rintro r w1 ⟨rfl, hs1⟩
 have HS1 := hide hs1
 have hz1 := hs1.size
 have HN1 := hide (newReader_ok k ms w1 (by omega) ((unhide HO).step hs1 (fun _ _ x => x)) (by omega))
 clear hs1 HKN
 go_wp2_with fail
 refine (unhide HPK w1).mono ?_
 rintro r wq ⟨rfl, hwq⟩
 rw [hwq]
 clear hwq wq HPK
 go_wp2_with fail
 refine (unhide HN1).mono ?_
 rintro r w2 ⟨Rx, OX, rfl, hx, hox, hs2⟩
 have hs02 := (unhide HS1).trans hs2
 have hz2 := hs2.size
 have HN2 := hide (newReader_ok k ms w2 (by omega) ((unhide HO).step hs02 (fun _ _ x => x)) (by omega))
 have HX := hide (And.intro hx hox)
 have HS2 := hide hs02
 clear HN1 HS1 hs2 hs02 hx hox
 go_wp2_with fail
 refine (unhide HN2).mono ?_
 rintro r w3 ⟨Ry, OY, rfl, hy, hoy, hs3⟩
 have hs03 := (unhide HS2).trans hs3
 have hz3 := hs3.size
 have HX3 := hide (And.intro ((unhide HX).1.frame hs3 (fun _ x => x.elim)) (And.intro (fun q hq => And.intro ((unhide HX).2 q hq) ((unhide HX).1.lt hq).2) (And.intro hy hoy)))
 clear HN2 HX HS2 hs3 hy hoy
 have hconv := conv_str w3 s
 obtain ⟨kc, hkc⟩ : ∃ kc, kc = grownCap w3 s.size 0 5 := ⟨_, rfl⟩
 rw [← hkc] at hconv
 have hsrc := str_src w3 s kc ((bytesRow s kc).size, (bytesRow s kc).size + 1) hs
 have hst4 := str_step w3 (.cells (bytesRow s kc) 5 ((bytesRow s kc).size, (bytesRow s kc).size + 1))
 have hz4 : (w3.drew.alloc (.cells (bytesRow s kc) 5 ((bytesRow s kc).size, (bytesRow s kc).size + 1))).heap.size = w3.heap.size + 1 := by rw [World.size_alloc]; rfl
 obtain ⟨w4, hw4⟩ : ∃ w4, w4 = w3.drew.alloc (.cells (bytesRow s kc) 5 ((bytesRow s kc).size, (bytesRow s kc).size + 1)) := ⟨_, rfl⟩
 rw [← hw4] at hconv hsrc hst4 hz4
 have hs04 := hs03.trans hst4
 have hu := unpack_all k w3.heap.size kc ms (bytesOf s) w4 (by omega) hsrc (by omega) ((unhide HO).step hs04 (fun _ _ x => x)) (by omega) (fun y hy => bytesOf_lt s y hy) (by rw [bytesOf_length]; omega) (unhide HALL)
 rw [bytesOf_length] at hu
 have HU := hide hu
 have HS4 := hide hs04
 have HX4 := hide (And.intro ((unhide HX3).1.frame hst4 (fun _ x => x.elim)) (And.intro (unhide HX3).2.1 (And.intro ((unhide HX3).2.2.1.frame hst4 (fun _ x => x.elim)) (fun q hq => And.intro ((unhide HX3).2.2.2 q hq) ((unhide HX3).2.2.1.lt hq).2))))
 clear hu hw4 hkc hsrc hst4 hs04 hs03 HX3
 go_upto_region 8 with (first
  | (go_at_call 25; refine (unhide HU).mono ?_; rintro r w5 ⟨v1, rfl, hown5, hst5⟩; obtain ⟨xa, xc, hv1⟩ := own_slice hown5; subst hv1; have HX5 := hide (And.intro hown5 hst5); clear hown5 hst5))
 obtain ⟨hown5, hst5⟩ := unhide HX5
 obtain ⟨w6, hw6⟩ : ∃ w6, w6 = w5.alloc (.cells #[.int .i64 (E : Nat), .slice xa OUT.length xc, .int .i64 (USED : Nat), .string (baOf NM)] 45) := ⟨_, rfl⟩
 rw [← hw6]
 have hst56 : Step (fun _ => False) w5 w6 := by rw [hw6]; exact (Step.refl _ _).alloc _
 have hT6 : w6.heap[w5.heap.size]? = some (.cells #[.int .i64 (E : Nat), .slice xa OUT.length xc, .int .i64 (USED : Nat), .string (baOf NM)] 45 (0, 0)) := by rw [hw6]; exact heap_alloc_new _ _
 have hst46 := hst5.trans hst56
 have hz5 := hst5.size
 have hI : PcI w w6 k (asked ms) Rx Ry w5.heap.size (.slice xa OUT.length xc) (bytesOf s) E OUT USED NM 0 0 ⟨#[]⟩ (.slice none 0 0) [] := by
  obtain ⟨a1, a2, a3, a4⟩ := unhide HX4
  refine ⟨⟨[], 3, 0, [], OX, [], [], 3, 0, [], OY, ?_, a3.frame hst46 (fun _ x => x.elim), ⟨by simp, fun y hy => by simp at hy⟩, fun q hq => ?_, fun q hq => ?_, rfl, fun q hq => by simp [Value.ownBlock] at hq⟩, hT6, World.ownsRow_nil _ _ _ _, ?_, unhide HALL, (unhide HS4).trans hst46⟩
  ·rw [List.take_zero]
   exact a1.frame hst46 (fun _ x => x.elim)
  ·have := a2 q hq
   exact ⟨fun z => by have := (a4 q z).1; omega, by omega, by omega, fun z => by have := (hown5.lt q z).1; omega⟩
  ·have := a4 q hq
   exact ⟨by omega, by omega, fun z => by have := (hown5.lt q z).1; omega⟩
  ·exact ownsRow_mono (ownsRow_of_block hown5 fun q hq => hst56.block q (hown5.lt q hq).2 (fun x => x)) (by omega)
 have HI := hide hI
 obtain ⟨R1, hR1⟩ : ∃ R1, R1 = w5.heap.size := ⟨_, rfl⟩
 rw [← hR1] at HI ⊢
 clear hI hT6 hst56 hst46 hown5 hst5 HX5 hw6 HU HX4 HS4 HALL hR1
 go_wp2_with fail
 refine pieces_loop s ca cs cap k (asked ms) Rx Ry R1 E USED (.slice xa OUT.length xc) OUT NM w w6 (by omega) hm hs hcs (unhide HIV) (unhide HI) _ _ _ _ _ _ _ _ _ _ _ _ _ _ _ _ _ _ _ _ _ _ _ _ _ _ _ _ _ _ _ _ _ _ _ _ _ _ _ _ _ _ _ _ _ _ _ _ _ _ _ _ _ _ _ _ _ _ _ _ _ _ _ _ _ _ _ _ _ _ _ _ _ _ _ _ _ _ _ _ _ _ _ _ _ _ _ _ _ _ _ _ _ _ _ _ _ _ _ _ _ _ _ _ _ _ _ _ _ _ _ _ _ _ _ _ _ _ _ _ _ _ _ _ _ _ _ _ _ _ _ _ _ _ _ _ _ _ _ _ _ _ _ _ _ _ _ _ _ _ _ _ _ _ _ _ _ _ _ _ ?_
 intro x8 x18 x19 x20 x21 x66 x67 x68 x69 x70 x71 x72 x73 x74 x75 x76 x77 x78 x79 x80 x81 x82 x83 x84 x85 x86 x87 x88 x89 x90 x91 x92 x93 x94 x95 x96 x97 x98 x99 x100 x101 x102 x103 x104 x105 x106 x107 x108 x109 x110 x111 x112 x113 x114 x115 x116 j i so w7 hj hI7
 rename_i K hK
 refine hK _ _ ?_
 exact pieces_tail _ s k (asked ms) Rx Ry R1 E USED (.slice xa OUT.length xc) OUT NM w w7 (by omega) hm hs (fun w' hw' => ⟨rfl, hw'⟩) j i so hj hI7 _ _ _ _ _ _ _ _ _ _ _ _ _ _ _ _ _ _ _ _ _ _ _ _ _ _ _ _ _ _ _ _ _ _ _ _ _ _ _ _ _ _ _ _ _ _ _ _ _ _ _ _ _ _ _ _ _ _ _ _ _ _ _ _ _ _ _ _ _ _ _ _ _ _ _ _ _ _ _ _ _ _ _ _ _ _ _ _ _ _ _ _ _ _ _ _ _ _ _ _ _ _ _ _ _ _ _ _ _ _ _ _ _ _ _ _ _ _ _ _ _ _ _ _ _ _ _ _ _ _ _ _ _ _ _ _ _ _ _ _ _ _ _ _ _ _ _ _ _ _ _ _ _ _ _ _ _ _ _ _ _ _ _ _
end Go.Proofs.YtbpahojchgpdnaaGreatDoor
