/- Proved here: bytes, and copies of them, as pieces; a copy from ahead of the beginning; nothing of the program. Proved here: bits that are written, and bytes that are kept beside them, in memory. Proved here: what the loop of Copies that writes the bytes does. Proved here: what the loop of Copies that copies byte by byte does. Proved here: what lengthCode and distanceCode answer. Proved here: what the loop of Copies over its copies does. Proved here: what Copies does with a copy from ahead of the beginning. Proved here: what Copies does behind its loops. Proved here: Copies answers true. -/
import Derived.Test.YtbpahojchgpdnaaGreatDoorAgain
import Derived.Test.YtbpahojchgpdnaaGreatDoorBlocks
import Derived.Test.YtbpahojchgpdnaaGreatDoorBitsAll
import Derived.Test.YtbpahojchgpdnaaGreatDoorGround
import Derived.Deep.LoopGhost
import Derived.Test.YtbpahojchgpdnaaGreatDoorBkMark
import Derived.Test.YtbpahojchgpdnaaGreatDoorNames
import Derived.Test.YtbpahojchgpdnaaGreatDoorOwn
import Derived.Deep.RegionLaw
import Derived.Deep.AppendLies
import Derived.Lib.AppendStr
namespace Go.Proofs.YtbpahojchgpdnaaGreatDoor
open Go.RowKit Go.Bel Go.Maps

theorem fix_codeB (c : Nat) (hc : c < 288) : codeB fixLens c = fixedBits c := by
  unfold codeB fixedBits
  by_cases h1 : c < 144
  · have hg : fixLens[c]?.getD 0 = 8 := by rw [fixLens_get, fixG, if_pos h1]
    rw [if_pos h1, hg, Bel.keyOf, hg, show 8 - 1 = 7 from rfl, fix_nx7, fix_cnt8 c (by omega)]
    refine congrArg (fun z => codeBits z 8) ?_
    omega
  rw [if_neg h1]
  by_cases h2 : c < 256
  · have hg : fixLens[c]?.getD 0 = 9 := by rw [fixLens_get, fixG, if_neg h1, if_pos h2]
    rw [if_pos h2, hg, Bel.keyOf, hg, show 9 - 1 = 8 from rfl, fix_nx8, fix_cnt9 c (by omega)]
    refine congrArg (fun z => codeBits z 9) ?_
    omega
  rw [if_neg h2]
  by_cases h3 : c < 280
  · have hg : fixLens[c]?.getD 0 = 7 := by rw [fixLens_get, fixG, if_neg h1, if_neg h2, if_pos h3]
    rw [if_pos h3, hg, Bel.keyOf, hg, show 7 - 1 = 6 from rfl, fix_nx6, fix_cnt7 c (by omega)]
    refine congrArg (fun z => codeBits z 7) ?_
    omega
  · have hg : fixLens[c]?.getD 0 = 8 := by rw [fixLens_get, fixG, if_neg h1, if_neg h2, if_neg h3, if_pos hc]
    rw [if_neg h3, hg, Bel.keyOf, hg, show 8 - 1 = 7 from rfl, fix_nx7, fix_cnt8 c (by omega)]
    refine congrArg (fun z => codeBits z 8) ?_
    omega
theorem far_key : ∀ s, s < 32 → Bel.keyOf (List.replicate 32 5) s = 32 + s ∧ (List.replicate 32 5)[s]?.getD 0 = 5 := by decide +kernel
theorem far_codeB (s : Nat) (hs : s < 32) : codeB (List.replicate 32 5) s = codeBits s 5 := by
  obtain ⟨h1, h2⟩ := far_key s hs
  unfold codeB
  rw [h1, h2, show 32 + s - 2 ^ 5 = s by omega]

/- pieces of a list are pieces of a longer one -/
theorem get_more (Y Z : List Nat) (i : Nat) (h : i < Y.length) : (Y ++ Z)[i]?.getD 0 = Y[i]?.getD 0 := by rw [List.getElem?_append_left h]
theorem PcOk.more {Y : List Nat} {q : Nat} {p : Pc} (h : PcOk Y q p) (hq : q < Y.length) (Z : List Nat) : PcOk (Y ++ Z) q p := by
  rcases h with ⟨h1, h2⟩ | ⟨h1, h2, h3, h4, h5, h6, h7, h8⟩
  · exact .inl ⟨h1, by rw [get_more Y Z q hq]; exact h2⟩
  · refine .inr ⟨h1, h2, by rw [List.length_append]; omega, h4, h5, h6, h7, fun i hi => ?_⟩
    rw [get_more Y Z _ (by omega), get_more Y Z _ (by omega)]
    exact h8 i hi
theorem PcsFrom.more {Y : List Nat} (Z : List Nat) : ∀ {ps : List Pc} {q r : Nat}, PcsFrom Y q ps r → PcsFrom (Y ++ Z) q ps r
  | [], _, _, h => h
  | _ :: _, _, _, h => ⟨by rw [List.length_append]; have := h.1; omega, h.2.1.more h.1 Z, PcsFrom.more Z h.2.2⟩

/- bytes as pieces -/
theorem lits_step {Y : List Nat} {ps : List Pc} {pb : List Bool} {c : Nat} (h : PcsFrom Y 0 ps Y.length) (hb : PcsBits fixLens (List.replicate 32 5) ps pb) (hc : c < 256) : PcsFrom (Y ++ [c]) 0 (ps ++ [⟨c, 0, 0⟩]) (Y ++ [c]).length ∧ PcsBits fixLens (List.replicate 32 5) (ps ++ [⟨c, 0, 0⟩]) (pb ++ fixedBits c) := by
  constructor
  · have h1 := PcsFrom.snoc (p := ⟨c, 0, 0⟩) (PcsFrom.more [c] h) (by simp) (.inl ⟨rfl, by simp⟩)
    have e : (Y ++ [c]).length = Y.length + max 1 (0 : Nat) := by simp
    rw [e]
    exact h1
  · exact hb.snoc (.inl ⟨rfl, by rw [fix_codeB c (by omega)]⟩)

/- a copy, byte by byte -/
def growBy (Y : List Nat) (d : Nat) : Nat → List Nat
  | 0 => Y
  | k + 1 => growBy Y d k ++ [(growBy Y d k)[(growBy Y d k).length - d]?.getD 0]
theorem growBy_length (Y : List Nat) (d k : Nat) : (growBy Y d k).length = Y.length + k := by
  induction k with
  | zero => rfl
  | succ k ih => rw [growBy, List.length_append, ih]; simp; omega
theorem growBy_pre (Y : List Nat) (d k : Nat) : ∃ Z, growBy Y d k = Y ++ Z := by
  induction k with
  | zero => exact ⟨[], by simp [growBy]⟩
  | succ k ih =>
    obtain ⟨Z, hZ⟩ := ih
    exact ⟨Z ++ [(growBy Y d k)[(growBy Y d k).length - d]?.getD 0], by rw [growBy, ← List.append_assoc, ← hZ]⟩
theorem growBy_at (Y : List Nat) (d : Nat) (h1 : 1 ≤ d) (hd : d ≤ Y.length) : ∀ k i, i < k → (growBy Y d k)[Y.length - d + i]?.getD 0 = (growBy Y d k)[Y.length + i]?.getD 0 := by
  intro k
  induction k with
  | zero => intro i hi; omega
  | succ k ih =>
    intro i hi
    have hl := growBy_length Y d k
    rw [growBy]
    by_cases hik : i < k
    · rw [get_more _ _ _ (by omega), get_more _ _ _ (by omega)]
      exact ih i hik
    · obtain rfl : i = k := by omega
      rw [get_more _ _ _ (by omega), List.getElem?_append_right (by omega), hl, Nat.sub_self]
      show _ = (growBy Y d i)[Y.length + i - d]?.getD 0
      congr 2
      omega
theorem copy_step {Y : List Nat} {ps : List Pc} {pb : List Bool} {n d s x m s2 x2 m2 : Nat} (h : PcsFrom Y 0 ps Y.length) (hb : PcsBits fixLens (List.replicate 32 5) ps pb) (hn : 3 ≤ n) (hn2 : n ≤ 258) (h1 : 1 ≤ d) (hd : d ≤ Y.length) (hd2 : d ≤ 32768) (hM : LenM n s x m) (hM2 : DistM d s2 x2 m2) :
    PcsFrom (growBy Y d n) 0 (ps ++ [⟨0, n, d⟩]) (growBy Y d n).length ∧ PcsBits fixLens (List.replicate 32 5) (ps ++ [⟨0, n, d⟩]) (pb ++ (fixedBits s ++ numBits x m ++ codeBits s2 5 ++ numBits x2 m2)) := by
  have hb1 := hM.bd
  have hb2 := hM2.bd
  constructor
  · obtain ⟨Z, hZ⟩ := growBy_pre Y d n
    have hl := growBy_length Y d n
    have hok : PcOk (growBy Y d n) Y.length ⟨0, n, d⟩ := .inr ⟨hn, hn2, by rw [hl]; exact Nat.le_refl _, h1, hd2, hd, rfl, fun i hi => growBy_at Y d h1 hd n i hi⟩
    have h2 : PcsFrom (growBy Y d n) 0 ps Y.length := by rw [hZ]; exact PcsFrom.more Z h
    have h3 := PcsFrom.snoc (p := ⟨0, n, d⟩) h2 (by omega) hok
    have e : Y.length + max 1 n = (growBy Y d n).length := by rw [hl]; omega
    rw [← e]
    exact h3
  · refine hb.snoc (.inr ⟨by show n ≠ 0; omega, s, x, m, s2, x2, m2, hM, hM2, ?_⟩)
    rw [fix_codeB s (by omega), far_codeB s2 (by omega)]

theorem growBy_byte (Y : List Nat) (d k : Nat) (hY : ∀ i : Nat, Y[i]?.getD 0 < 256) : ∀ i : Nat, (growBy Y d k)[i]?.getD 0 < 256 := by
  induction k with
  | zero => exact hY
  | succ k ih =>
    intro i
    rw [growBy]
    rcases Nat.lt_or_ge i (growBy Y d k).length with h | h
    · rw [get_more _ _ _ h]; exact ih i
    · rw [List.getElem?_append_right h]
      rcases Nat.eq_zero_or_pos (i - (growBy Y d k).length) with h0 | h0
      · rw [h0]; exact ih _
      · rw [List.getElem?_eq_none (by simp; omega)]; exact (by decide)

/- a copy from ahead of the beginning -/
theorem far_run {Y : List Nat} {ps : List Pc} {pb : List Bool} {P : List Nat} {d s x m : Nat} (h : PcsFrom Y 0 ps Y.length) (hb : PcsBits fixLens (List.replicate 32 5) ps pb) (hY : ∀ i : Nat, Y[i]?.getD 0 < 256) (hM : DistM d s x m) (hd : Y.length < d)
    (hB : BitsIn (beginBits true 1 ++ pb ++ fixedBits 257 ++ codeBits s 5 ++ numBits x m) P) (hl : P.length = ((beginBits true 1 ++ pb ++ fixedBits 257 ++ codeBits s 5 ++ numBits x m).length + 7) / 8) {most : Nat} (hm : Y.length ≤ most) :
    ∃ n, GRun P n (gInit most) 10 Y 0 := by
  have hall := hB
  have hal : (beginBits true 1 ++ pb ++ fixedBits 257 ++ codeBits s 5 ++ numBits x m).length ≤ 8 * P.length := by omega
  have hbd := hM.bd
  obtain ⟨bs, hbs⟩ : ∃ bs, bs = beginBits true 1 ++ pb ++ fixedBits 257 ++ codeBits s 5 ++ numBits x m := ⟨_, rfl⟩
  have hbits : BitsFrom bs 0 (beginBits true 1 ++ pb ++ fixedBits 257 ++ codeBits s 5 ++ numBits x m) := by
    rw [← hbs]
    intro i hi
    rw [Nat.zero_add]
  rw [← hbs] at hB hal
  have hf0 := hbits.left.left.left.left
  have hf1 := hbits.left.left.left.right
  rw [beginBits_length] at hf1
  have e3 : beginBits true 1 ++ pb ++ fixedBits 257 ++ codeBits s 5 ++ numBits x m = (beginBits true 1 ++ pb) ++ (fixedBits 257 ++ (codeBits s 5 ++ numBits x m)) := by simp only [List.append_assoc]
  rw [e3] at hbits
  have hf2 := hbits.right
  rw [List.length_append, beginBits_length, ← Nat.add_assoc] at hf2
  have hhead := head_from hB hal 0 1 true (by omega) hf0
  have e1 := head_fixed (B := P) (s := gInit most) (last := true) rfl hhead
  have l1 := Leads.one (by simp [gInit]) e1
  have l2 := pieces_lead hB hal fix_le far5_le fix_may ps pb 0 Y.length { gInit most with last := true, place := 2, ls := fixLens, ld := List.replicate 32 5, p := 0 + 3 } (fun p hp => ⟨pcs_needs hY h p hp, fun _ => far_may⟩) h hb rfl rfl rfl (by simp [gInit]) (by omega) hf1
  have l3 := l1.trans (l2.1 hm)
  have hs := sym_read (L := fixLens) hB hal fix_le fix_may (fixHas 257 (by omega)) (p := 0 + 3 + pb.length) (by rw [fix_codeB 257 (by omega)]; exact hf2.left)
  rw [fix_codeB 257 (by omega)] at hs
  have hdr := dist_read (L := List.replicate 32 5) (d := d) hB hal far5_le far_may (farHas s (by omega)) hM (q := 0 + 3 + pb.length + (fixedBits 257).length) (by rw [far_codeB s (by omega)]; exact hf2.right)
  refine l3.run (m := 1) (.no _ 10 _ (by simp) ?_)
  unfold Go.Bel.gStep
  rw [if_neg (by simp), if_pos rfl]
  unfold gSym
  dsimp only
  rw [hs]
  dsimp only
  rw [if_neg (by omega), if_neg (by omega)]
  unfold gCopy rLength
  rw [if_neg (by omega), if_neg (by omega), if_pos (by omega)]
  dsimp only
  rw [hdr]
  dsimp only
  rw [List.take_length, if_pos hd]
end Go.Proofs.YtbpahojchgpdnaaGreatDoor

namespace Go.Proofs.YtbpahojchgpdnaaGreatDoor
open Go.RowKit Go.Bel

/- the writer at block b, and a row of bytes -/
structure KpM (w1 wr : World) (b base : Nat) (v va : Value) (R : List Nat) (bs : List Bool) : Prop where
  pen : Bw wr b base 33 5 v bs
  row : wr.ownsRow base 5 1 va R.length (u8s R)
  off : ∀ g, va.ownBlock = some g → Off b v g
  st : Step (fun _ => False) w1 wr
  geo : w1.heap.size ≤ b ∧ b < base ∧ base ≤ wr.heap.size

theorem KpM.adds {w1 wr w' : World} {b base : Nat} {v va v' : Value} {R : List Nat} {bs bs' : List Bool} (h : KpM w1 wr b base v va R bs) (hp : Bw w' b base 33 5 v' bs') (hw : Wrt b wr v w' v') : KpM w1 w' b base v' va R bs' := by
  have hz := hw.step.size
  obtain ⟨B, hB⟩ := h.pen
  refine ⟨hp, ownsRow_of_block h.row (fun k hk => hw.step.block k (h.row.lt k hk).2 (fun y => y.elim (h.off k hk).1 (h.off k hk).2)), fun g hg => (h.off g hg).wrt (h.row.lt g hg).2 hw, h.st.trans' hw.step (fun i hi y => ?_), ⟨h.geo.1, h.geo.2.1, by have := h.geo.2.2; omega⟩⟩
  rcases y with y | y
  · have := h.geo.1; omega
  · have h1 := (hB.row.own.lt i y).1
    have := h.geo
    omega
theorem KpM.step {w1 wr w' : World} {b base : Nat} {v va : Value} {R : List Nat} {bs : List Bool} (h : KpM w1 wr b base v va R bs) (hs : Step (fun _ => False) wr w') : KpM w1 w' b base v va R bs := by
  have hz := hs.size
  exact ⟨h.pen.step0 hs, ownsRow_of_block h.row (fun k hk => hs.block k (h.row.lt k hk).2 (fun x => x)), h.off, h.st.trans hs, ⟨h.geo.1, h.geo.2.1, by have := h.geo.2.2; omega⟩⟩
theorem KpM.app {w1 wr w2 w3 : World} {b base : Nat} {v va va' : Value} {R N : List Nat} {bs : List Bool} (h : KpM w1 wr b base v va R bs) (hs : Step (fun _ => False) wr w2) (hg : w2.grownBy w3 va.ownBlock) (hn : w3.ownsRow base 5 1 va' (R.length + N.length) (u8s R ++ u8s N)) (hv : ∀ g, va'.ownBlock = some g → va.ownBlock = some g ∨ w2.heap.size ≤ g) : KpM w1 w3 b base v va' (R ++ N) bs := by
  have h2 := h.step hs
  have hz := hg.size
  obtain ⟨B, hB⟩ := h2.pen
  have hb := lt_of_block hB.row.blk
  refine ⟨h2.pen.of (hg.block b hb (fun e => (h2.off b e.symm).1 rfl)) (fun k hk => hg.block k (hB.row.own.lt k hk).2 (fun e => (h2.off k e.symm).2 hk)), by rw [List.length_append, show u8s (R ++ N) = u8s R ++ u8s N by simp [u8s]]; exact hn, fun g hg' => ?_, h2.st.grown hg (fun k hk => .inr ?_), ⟨h2.geo.1, h2.geo.2.1, by have := h2.geo.2.2; omega⟩⟩
  · rcases hv g hg' with e | e
    · exact h2.off g e
    · refine ⟨by omega, fun e2 => ?_⟩
      have := (hB.row.own.lt g e2).2
      omega
  · have := (h2.row.lt k hk).1
    have := h2.geo
    omega
theorem KpM.penOf {w1 wr : World} {b base : Nat} {v va : Value} {R : List Nat} {bs : List Bool} (h : KpM w1 wr b base v va R bs) : Pen wr b base v bs := ⟨h.pen, h.geo.2.2⟩
theorem KpM.form {w1 wr : World} {b base : Nat} {v va : Value} {R : List Nat} {bs : List Bool} (h : KpM w1 wr b base v va R bs) (h0 : 0 < R.length) : ∃ g c, va = .slice (some ⟨g, 0, none⟩) R.length c := by
  rcases h.row.2 with ⟨_, h1⟩ | ⟨g, cap, _, hv, _⟩
  · omega
  · exact ⟨g, cap, hv⟩

/- the pieces that are written so far -/
structure KpB (Y : List Nat) (ps : List Pc) (pb : List Bool) : Prop where
  pcs : PcsFrom Y 0 ps Y.length
  bits : PcsBits fixLens (List.replicate 32 5) ps pb
  len : pb.length ≤ 48 * ps.length
  byte : ∀ i : Nat, Y[i]?.getD 0 < 256
theorem KpB.nil : KpB [] [] [] := ⟨rfl, rfl, by simp, fun i => by simp⟩
theorem KpB.lit {Y : List Nat} {ps : List Pc} {pb : List Bool} {c : Nat} (h : KpB Y ps pb) (hc : c < 256) : KpB (Y ++ [c]) (ps ++ [⟨c, 0, 0⟩]) (pb ++ fixedBits c) := by
  obtain ⟨h1, h2⟩ := lits_step h.pcs h.bits hc
  refine ⟨h1, h2, ?_, fun i => ?_⟩
  · have := h.len
    have := fixedBits_length c
    simp only [List.length_append, List.length_cons, List.length_nil]
    omega
  · rcases Nat.lt_or_ge i Y.length with y | y
    · rw [get_more _ _ _ y]; exact h.byte i
    · rw [List.getElem?_append_right y]
      rcases Nat.eq_zero_or_pos (i - Y.length) with z | z
      · rw [z]; exact hc
      · rw [List.getElem?_eq_none (by simp; omega)]; exact (by decide)
theorem KpB.copy {Y : List Nat} {ps : List Pc} {pb : List Bool} {n d s x m s2 x2 m2 : Nat} (h : KpB Y ps pb) (hn : 3 ≤ n) (hn2 : n ≤ 258) (h1 : 1 ≤ d) (hd : d ≤ Y.length) (hd2 : d ≤ 32768) (hM : LenM n s x m) (hM2 : DistM d s2 x2 m2) :
    KpB (growBy Y d n) (ps ++ [⟨0, n, d⟩]) (pb ++ (fixedBits s ++ numBits x m ++ codeBits s2 5 ++ numBits x2 m2)) := by
  obtain ⟨k1, k2⟩ := copy_step h.pcs h.bits hn hn2 h1 hd hd2 hM hM2
  refine ⟨k1, k2, ?_, growBy_byte Y d n h.byte⟩
  have := h.len
  have := fixedBits_length s
  have := hM.bd
  have := hM2.bd
  simp only [List.length_append, List.length_cons, List.length_nil, numBits_length, codeBits_length]
  omega
theorem KpB.fixed {Y : List Nat} {ps : List Pc} {pb : List Bool} (h : KpB Y ps pb) : FixPb Y (beginBits true 1 ++ pb ++ fixedBits 256) := ⟨ps, pb, h.pcs, h.bits, h.len, by rw [fix_codeB 256 (by omega)]⟩
theorem KpB.small {Y : List Nat} {ps : List Pc} {pb : List Bool} (h : KpB Y ps pb) : pb.length ≤ 48 * Y.length := by
  have := h.pcs.count
  have := h.len
  omega
end Go.Proofs.YtbpahojchgpdnaaGreatDoor

namespace Go.Proofs.YtbpahojchgpdnaaGreatDoor
open Go.RowKit Go.Bel

/- the loops of a function's text, the outer ahead of the inner -/
def kLoops : Code → List Code
  | .loop c => .loop c :: kLoops c
  | .seq a b => kLoops a ++ kLoops b
  | .block _ c => kLoops c
  | .scope c => kLoops c
  | .cond _ a b => kLoops a ++ kLoops b
  | _ => []
noncomputable def kLoop (fn : Func) (i : Nat) : Code := ((fn.body.map kLoops).getD [])[i]?.getD .skip

theorem kp_step (s : ByteArray) (j : Nat) (h : j < s.size) : (bytesOf s).take (j + 1) = (bytesOf s).take j ++ [s[j].toNat] := by
  have h2 : j < (bytesOf s).length := by rw [bytesOf_length]; exact h
  have e : (bytesOf s)[j] = s[j].toNat := by simp [bytesOf]; rfl
  rw [List.take_succ_eq_append_getElem h2, e]

set_option maxRecDepth 100000 in
set_option maxHeartbeats 4000000 in
theorem copies_loop1 (s : ByteArray) (b base : Nat) (va v0 : Value) (w1 w0 : World) (hs : s.size ≤ 140737488351232) (h0 : KpM w1 w0 b base v0 va (bytesOf s) (beginBits true 1)) (Q0 : Exit → Act → World → Prop)
    (fr1 fr2 fr3 fr4 fr5 fr6 fr7 fr11 fr12 fr13 fr14 fr15 fr16 fr17 fr18 fr19 fr20 fr21 fr22 fr23 fr24 fr25 fr26 fr27 fr28 fr29 fr30 fr31 fr32 fr33 fr34 fr35 fr36 fr37 fr38 fr39 fr40 fr41 fr42 fr43 fr44 fr45 fr46 fr47 fr48 fr49 fr50 fr51 fr52 fr53 fr54 fr55 fr56 fr57 fr58 fr59 fr60 fr61 fr62 fr63 fr64 fr65 fr66 fr67 fr68 fr69 fr70 fr71 fr72 fr73 fr74 fr75 fr76 fr77 fr78 fr79 fr80 fr81 fr82 fr83 fr84 fr85 fr86 fr87 fr88 fr89 fr90 fr91 fr92 fr93 fr94 fr95 fr96 fr97 fr98 fr99 fr100 fr101 fr102 fr103 fr104 fr105 fr106 fr107 fr108 fr109 fr110 fr111 fr112 fr113 fr114 fr115 fr116 fr117 fr118 fr119 fr120 fr121 fr122 fr123 fr124 fr125 fr126 fr127 fr128 fr129 fr130 fr131 fr132 fr133 fr134 fr135 fr136 fr137 fr138 fr139 fr140 fr141 fr142 fr143 fr144 fr145 fr146 fr147 fr148 fr149 fr150 fr151 fr152 fr153 fr154 fr155 fr156 fr157 fr158 fr159 fr160 fr161 fr162 fr163 fr164 fr165 fr166 fr167 fr168 fr169 fr170 fr171 fr172 fr173 fr174 fr175 fr176 fr177 fr178 fr179 fr180 fr181 fr182 fr183 fr184 fr185 fr186 fr187 fr188 fr189 : Value)
    (hexit : ∀ (x10 x37 x38 x39 x40 x41 x42 x43 x44 x45 x46 x47 x48 : Value) (wr : World) (v : Value) (ps : List Pc) (pb : List Bool), KpM w1 wr b base v va (bytesOf s) (beginBits true 1 ++ pb) → KpB (bytesOf s) ps pb → Q0 (.exit 0) ⟨(List.toArray ((.string s) :: fr1 :: fr2 :: fr3 :: fr4 :: fr5 :: fr6 :: fr7 :: (.pointer (some ⟨b, 0, none⟩)) :: va :: x10 :: fr11 :: fr12 :: fr13 :: fr14 :: fr15 :: fr16 :: fr17 :: fr18 :: fr19 :: fr20 :: fr21 :: fr22 :: fr23 :: fr24 :: fr25 :: fr26 :: fr27 :: fr28 :: fr29 :: fr30 :: fr31 :: fr32 :: fr33 :: fr34 :: fr35 :: fr36 :: x37 :: x38 :: x39 :: x40 :: x41 :: x42 :: x43 :: x44 :: x45 :: x46 :: x47 :: x48 :: fr49 :: fr50 :: fr51 :: fr52 :: fr53 :: fr54 :: fr55 :: fr56 :: fr57 :: fr58 :: fr59 :: fr60 :: fr61 :: fr62 :: fr63 :: fr64 :: fr65 :: fr66 :: fr67 :: fr68 :: fr69 :: fr70 :: fr71 :: fr72 :: fr73 :: fr74 :: fr75 :: fr76 :: fr77 :: fr78 :: fr79 :: fr80 :: fr81 :: fr82 :: fr83 :: fr84 :: fr85 :: fr86 :: fr87 :: fr88 :: fr89 :: fr90 :: fr91 :: fr92 :: fr93 :: fr94 :: fr95 :: fr96 :: fr97 :: fr98 :: fr99 :: fr100 :: fr101 :: fr102 :: fr103 :: fr104 :: fr105 :: fr106 :: fr107 :: fr108 :: fr109 :: fr110 :: fr111 :: fr112 :: fr113 :: fr114 :: fr115 :: fr116 :: fr117 :: fr118 :: fr119 :: fr120 :: fr121 :: fr122 :: fr123 :: fr124 :: fr125 :: fr126 :: fr127 :: fr128 :: fr129 :: fr130 :: fr131 :: fr132 :: fr133 :: fr134 :: fr135 :: fr136 :: fr137 :: fr138 :: fr139 :: fr140 :: fr141 :: fr142 :: fr143 :: fr144 :: fr145 :: fr146 :: fr147 :: fr148 :: fr149 :: fr150 :: fr151 :: fr152 :: fr153 :: fr154 :: fr155 :: fr156 :: fr157 :: fr158 :: fr159 :: fr160 :: fr161 :: fr162 :: fr163 :: fr164 :: fr165 :: fr166 :: fr167 :: fr168 :: fr169 :: fr170 :: fr171 :: fr172 :: fr173 :: fr174 :: fr175 :: fr176 :: fr177 :: fr178 :: fr179 :: fr180 :: fr181 :: fr182 :: fr183 :: fr184 :: fr185 :: fr186 :: fr187 :: fr188 :: fr189 :: [])), []⟩ wr) :
    (kLoop Tryz.f6 0).wp Tryz.prog Q0 ⟨(List.toArray ((.string s) :: fr1 :: fr2 :: fr3 :: fr4 :: fr5 :: fr6 :: fr7 :: (.pointer (some ⟨b, 0, none⟩)) :: va :: (.int .i64 0) :: fr11 :: fr12 :: fr13 :: fr14 :: fr15 :: fr16 :: fr17 :: fr18 :: fr19 :: fr20 :: fr21 :: fr22 :: fr23 :: fr24 :: fr25 :: fr26 :: fr27 :: fr28 :: fr29 :: fr30 :: fr31 :: fr32 :: fr33 :: fr34 :: fr35 :: fr36 :: fr37 :: fr38 :: fr39 :: fr40 :: fr41 :: fr42 :: fr43 :: fr44 :: fr45 :: fr46 :: fr47 :: fr48 :: fr49 :: fr50 :: fr51 :: fr52 :: fr53 :: fr54 :: fr55 :: fr56 :: fr57 :: fr58 :: fr59 :: fr60 :: fr61 :: fr62 :: fr63 :: fr64 :: fr65 :: fr66 :: fr67 :: fr68 :: fr69 :: fr70 :: fr71 :: fr72 :: fr73 :: fr74 :: fr75 :: fr76 :: fr77 :: fr78 :: fr79 :: fr80 :: fr81 :: fr82 :: fr83 :: fr84 :: fr85 :: fr86 :: fr87 :: fr88 :: fr89 :: fr90 :: fr91 :: fr92 :: fr93 :: fr94 :: fr95 :: fr96 :: fr97 :: fr98 :: fr99 :: fr100 :: fr101 :: fr102 :: fr103 :: fr104 :: fr105 :: fr106 :: fr107 :: fr108 :: fr109 :: fr110 :: fr111 :: fr112 :: fr113 :: fr114 :: fr115 :: fr116 :: fr117 :: fr118 :: fr119 :: fr120 :: fr121 :: fr122 :: fr123 :: fr124 :: fr125 :: fr126 :: fr127 :: fr128 :: fr129 :: fr130 :: fr131 :: fr132 :: fr133 :: fr134 :: fr135 :: fr136 :: fr137 :: fr138 :: fr139 :: fr140 :: fr141 :: fr142 :: fr143 :: fr144 :: fr145 :: fr146 :: fr147 :: fr148 :: fr149 :: fr150 :: fr151 :: fr152 :: fr153 :: fr154 :: fr155 :: fr156 :: fr157 :: fr158 :: fr159 :: fr160 :: fr161 :: fr162 :: fr163 :: fr164 :: fr165 :: fr166 :: fr167 :: fr168 :: fr169 :: fr170 :: fr171 :: fr172 :: fr173 :: fr174 :: fr175 :: fr176 :: fr177 :: fr178 :: fr179 :: fr180 :: fr181 :: fr182 :: fr183 :: fr184 :: fr185 :: fr186 :: fr187 :: fr188 :: fr189 :: [])), []⟩ w0 := by
  conv => arg 2; whnf
  have HX := hide hexit
  have H0 := hide h0
  clear hexit h0
  go_loopg [10] s.size (fun k u10 wr => ∃ (i : Nat) (v : Value) (ps : List Pc) (pb : List Bool), u10 = .int .i64 (i : Nat) ∧ k + i = s.size ∧ KpM w1 wr b base v va (bytesOf s) (beginBits true 1 ++ pb) ∧ KpB ((bytesOf s).take i) ps pb ∧ pb.length ≤ 9 * i)
  case atStart => exact ⟨0, v0, [], [], rfl, by omega, by rw [List.append_nil]; exact unhide H0, by rw [List.take_zero]; exact KpB.nil, by simp⟩
  case round =>
    clear H0
    obtain ⟨i, v, ps, pb, rfl, hk, hm, hb, hbl⟩ := hrel
    have HM := hide hm
    have HB := hide hb
    clear hm hb
    by_cases hlt : i < s.size
    · have hlt' : (i : Int) < (s.size : Int) := by omega
      have hi0 : (0 : Int) ≤ (i : Int) := by omega
      have hx := s[i].toNat_lt
      have HC := hide (fixed_adds b base s[i].toNat v (beginBits true 1 ++ pb) wr (unhide HM).penOf (by rw [List.length_append, beginBits_length]; omega) (by omega))
      go_wp2_with fail
      refine (unhide HC).mono ?_
      rintro e w2 ⟨rfl, v2, hp2, hw2⟩
      have hM2 := (unhide HM).adds hp2 hw2
      rw [List.append_assoc] at hM2
      have HM2 := hide hM2
      have HB2 := hide ((unhide HB).lit hx)
      clear hM2 hp2 hw2 HC
      go_wp2_with fail
      go_roundg (gk - 1)
      case measure => omega
      case rel => exact ⟨i + 1, v2, _, _, by go_num, by omega, unhide HM2, by rw [kp_step s i hlt]; exact unhide HB2, by have := fixedBits_length s[i].toNat; rw [List.length_append]; omega⟩
    · have hlt' : ¬ (i : Int) < (s.size : Int) := by omega
      have hB := unhide HB
      rw [List.take_of_length_le (by rw [bytesOf_length]; omega)] at hB
      have HX2 := unhide HX
      clear HX HB
      go_wp2_with fail
      exact HX2 _ _ _ _ _ _ _ _ _ _ _ _ _ wr v ps pb (unhide HM) hB
end Go.Proofs.YtbpahojchgpdnaaGreatDoor

namespace Go.Proofs.YtbpahojchgpdnaaGreatDoor
open Go.RowKit Go.Bel

theorem kp_one (w : World) (x : Int) (t : TypeId) (j : Nat) (u : Value) (h : ([.int .u8 x] : List Value)[j]? = some u) : (w.alloc (.cells #[.int .u8 x] t)).cell? ((⟨w.heap.size, 0, none⟩ : Addr).add j) = some u := by
  have e : (⟨w.heap.size, 0, none⟩ : Addr).add j = ⟨w.heap.size, j, none⟩ := by unfold Addr.add; split <;> simp_all
  rw [e, cell_of_row _ _ j _ _ _ (heap_alloc_new _ _)]
  simpa using h

set_option maxRecDepth 100000 in
set_option maxHeartbeats 4000000 in
theorem copies_loop3 (n d b base g0 c0 : Nat) (Y : List Nat) (v : Value) (bs : List Bool) (w1 w0 : World) (hn : n ≤ 258) (hd1 : 1 ≤ d) (hd : d ≤ Y.length) (hY : Y.length ≤ 1048576) (hby : ∀ i : Nat, Y[i]?.getD 0 < 256) (h0 : KpM w1 w0 b base v (.slice (some ⟨g0, 0, none⟩) Y.length c0) Y bs) (Q0 : Exit → Act → World → Prop)
    (fr0 fr1 fr2 fr3 fr4 fr5 fr6 fr7 fr8 fr10 fr11 fr14 fr15 fr16 fr18 fr19 fr20 fr21 fr22 fr23 fr24 fr25 fr26 fr27 fr28 fr29 fr30 fr31 fr32 fr33 fr34 fr35 fr36 fr37 fr38 fr39 fr40 fr41 fr42 fr43 fr44 fr45 fr46 fr47 fr48 fr49 fr50 fr51 fr52 fr53 fr54 fr55 fr56 fr57 fr58 fr59 fr60 fr61 fr62 fr63 fr64 fr65 fr66 fr67 fr68 fr69 fr70 fr71 fr72 fr73 fr74 fr75 fr76 fr77 fr78 fr79 fr80 fr81 fr82 fr83 fr84 fr85 fr86 fr87 fr88 fr89 fr90 fr91 fr92 fr93 fr94 fr95 fr96 fr97 fr98 fr99 fr100 fr101 fr102 fr103 fr104 fr105 fr106 fr107 fr108 fr109 fr110 fr111 fr112 fr113 fr114 fr115 fr116 fr117 fr118 fr119 fr120 fr121 fr122 fr123 fr124 fr125 fr126 fr127 fr128 fr129 fr130 fr131 fr132 fr133 fr134 fr135 fr136 fr137 fr138 fr139 fr140 fr141 fr142 fr143 fr144 fr145 fr146 fr147 fr148 fr149 fr150 fr151 fr152 fr153 fr154 fr155 fr156 fr157 fr158 fr159 fr160 fr161 fr162 fr163 fr164 fr165 fr166 fr167 fr168 fr169 fr170 fr171 fr172 fr173 fr174 fr175 fr176 fr177 fr178 fr179 fr180 fr181 fr182 fr183 fr184 fr185 fr186 fr187 fr188 fr189 : Value)
    (hexit : ∀ (x17 x103 x104 x105 x106 x107 x108 x109 x110 x111 x112 x113 x114 x115 x116 x117 : Value) (g cc : Nat) (wr : World), KpM w1 wr b base v (.slice (some ⟨g, 0, none⟩) (Y.length + n) cc) (growBy Y d n) bs → Q0 (.exit 4) ⟨(List.toArray (fr0 :: fr1 :: fr2 :: fr3 :: fr4 :: fr5 :: fr6 :: fr7 :: fr8 :: (.slice (some ⟨g, 0, none⟩) (Y.length + n) cc) :: fr10 :: fr11 :: (.int .i64 (n : Nat)) :: (.int .i64 (d : Nat)) :: fr14 :: fr15 :: fr16 :: x17 :: fr18 :: fr19 :: fr20 :: fr21 :: fr22 :: fr23 :: fr24 :: fr25 :: fr26 :: fr27 :: fr28 :: fr29 :: fr30 :: fr31 :: fr32 :: fr33 :: fr34 :: fr35 :: fr36 :: fr37 :: fr38 :: fr39 :: fr40 :: fr41 :: fr42 :: fr43 :: fr44 :: fr45 :: fr46 :: fr47 :: fr48 :: fr49 :: fr50 :: fr51 :: fr52 :: fr53 :: fr54 :: fr55 :: fr56 :: fr57 :: fr58 :: fr59 :: fr60 :: fr61 :: fr62 :: fr63 :: fr64 :: fr65 :: fr66 :: fr67 :: fr68 :: fr69 :: fr70 :: fr71 :: fr72 :: fr73 :: fr74 :: fr75 :: fr76 :: fr77 :: fr78 :: fr79 :: fr80 :: fr81 :: fr82 :: fr83 :: fr84 :: fr85 :: fr86 :: fr87 :: fr88 :: fr89 :: fr90 :: fr91 :: fr92 :: fr93 :: fr94 :: fr95 :: fr96 :: fr97 :: fr98 :: fr99 :: fr100 :: fr101 :: fr102 :: x103 :: x104 :: x105 :: x106 :: x107 :: x108 :: x109 :: x110 :: x111 :: x112 :: x113 :: x114 :: x115 :: x116 :: x117 :: fr118 :: fr119 :: fr120 :: fr121 :: fr122 :: fr123 :: fr124 :: fr125 :: fr126 :: fr127 :: fr128 :: fr129 :: fr130 :: fr131 :: fr132 :: fr133 :: fr134 :: fr135 :: fr136 :: fr137 :: fr138 :: fr139 :: fr140 :: fr141 :: fr142 :: fr143 :: fr144 :: fr145 :: fr146 :: fr147 :: fr148 :: fr149 :: fr150 :: fr151 :: fr152 :: fr153 :: fr154 :: fr155 :: fr156 :: fr157 :: fr158 :: fr159 :: fr160 :: fr161 :: fr162 :: fr163 :: fr164 :: fr165 :: fr166 :: fr167 :: fr168 :: fr169 :: fr170 :: fr171 :: fr172 :: fr173 :: fr174 :: fr175 :: fr176 :: fr177 :: fr178 :: fr179 :: fr180 :: fr181 :: fr182 :: fr183 :: fr184 :: fr185 :: fr186 :: fr187 :: fr188 :: fr189 :: [])), []⟩ wr) :
    (kLoop Tryz.f6 2).wp Tryz.prog Q0 ⟨(List.toArray (fr0 :: fr1 :: fr2 :: fr3 :: fr4 :: fr5 :: fr6 :: fr7 :: fr8 :: (.slice (some ⟨g0, 0, none⟩) Y.length c0) :: fr10 :: fr11 :: (.int .i64 (n : Nat)) :: (.int .i64 (d : Nat)) :: fr14 :: fr15 :: fr16 :: (.int .i64 0) :: fr18 :: fr19 :: fr20 :: fr21 :: fr22 :: fr23 :: fr24 :: fr25 :: fr26 :: fr27 :: fr28 :: fr29 :: fr30 :: fr31 :: fr32 :: fr33 :: fr34 :: fr35 :: fr36 :: fr37 :: fr38 :: fr39 :: fr40 :: fr41 :: fr42 :: fr43 :: fr44 :: fr45 :: fr46 :: fr47 :: fr48 :: fr49 :: fr50 :: fr51 :: fr52 :: fr53 :: fr54 :: fr55 :: fr56 :: fr57 :: fr58 :: fr59 :: fr60 :: fr61 :: fr62 :: fr63 :: fr64 :: fr65 :: fr66 :: fr67 :: fr68 :: fr69 :: fr70 :: fr71 :: fr72 :: fr73 :: fr74 :: fr75 :: fr76 :: fr77 :: fr78 :: fr79 :: fr80 :: fr81 :: fr82 :: fr83 :: fr84 :: fr85 :: fr86 :: fr87 :: fr88 :: fr89 :: fr90 :: fr91 :: fr92 :: fr93 :: fr94 :: fr95 :: fr96 :: fr97 :: fr98 :: fr99 :: fr100 :: fr101 :: fr102 :: fr103 :: fr104 :: fr105 :: fr106 :: fr107 :: fr108 :: fr109 :: fr110 :: fr111 :: fr112 :: fr113 :: fr114 :: fr115 :: fr116 :: fr117 :: fr118 :: fr119 :: fr120 :: fr121 :: fr122 :: fr123 :: fr124 :: fr125 :: fr126 :: fr127 :: fr128 :: fr129 :: fr130 :: fr131 :: fr132 :: fr133 :: fr134 :: fr135 :: fr136 :: fr137 :: fr138 :: fr139 :: fr140 :: fr141 :: fr142 :: fr143 :: fr144 :: fr145 :: fr146 :: fr147 :: fr148 :: fr149 :: fr150 :: fr151 :: fr152 :: fr153 :: fr154 :: fr155 :: fr156 :: fr157 :: fr158 :: fr159 :: fr160 :: fr161 :: fr162 :: fr163 :: fr164 :: fr165 :: fr166 :: fr167 :: fr168 :: fr169 :: fr170 :: fr171 :: fr172 :: fr173 :: fr174 :: fr175 :: fr176 :: fr177 :: fr178 :: fr179 :: fr180 :: fr181 :: fr182 :: fr183 :: fr184 :: fr185 :: fr186 :: fr187 :: fr188 :: fr189 :: [])), []⟩ w0 := by
  conv => arg 2; whnf
  have HX := hide hexit
  have H0 := hide h0
  clear hexit h0
  obtain ⟨i0, hi, hz0, hz1, hz2⟩ := info_parts Tryz.info5
  go_loopg [9, 17] n (fun k u9 u17 wr => ∃ (j g cc : Nat), u17 = .int .i64 (j : Nat) ∧ k + j = n ∧ u9 = .slice (some ⟨g, 0, none⟩) (Y.length + j) cc ∧ KpM w1 wr b base v (.slice (some ⟨g, 0, none⟩) (Y.length + j) cc) (growBy Y d j) bs)
  case atStart => exact ⟨0, g0, c0, rfl, by omega, rfl, unhide H0⟩
  case round =>
    clear H0
    obtain ⟨j, g, cc, rfl, hk, rfl, hm⟩ := hrel
    have hgl := growBy_length Y d j
    have HM := hide hm
    have hzz := hm.geo
    by_cases hlt : j < n
    · have hlt' : (j : Int) < (n : Int) := by omega
      obtain ⟨q, hq⟩ : ∃ q, q = Y.length + j - d := ⟨_, rfl⟩
      have hq' : ((Y.length : Int) + (j : Int)) - (d : Int) = (q : Int) := by omega
      have hq0 : (0 : Int) ≤ (q : Int) := by omega
      have hq1 : (q : Int) < (Y.length : Int) + (j : Int) := by omega
      have hrow := hm.row
      rw [hgl] at hrow
      have hcell := hrow.cellAt q (by omega)
      rw [u8s_get _ q (by rw [hgl]; omega)] at hcell
      have HROW := hide hrow
      have hG : growBy Y d (j + 1) = growBy Y d j ++ [(growBy Y d j)[q]?.getD 0] := by rw [growBy, hgl, hq]
      have hx := growBy_byte Y d j hby q
      obtain ⟨c, hc⟩ : ∃ c, c = (growBy Y d j)[q]?.getD 0 := ⟨_, rfl⟩
      rw [← hc] at hcell hG hx
      have HG := hide hG
      obtain ⟨L, hL⟩ : ∃ L, L = growBy Y d j := ⟨_, rfl⟩
      rw [← hL] at HROW HM hgl HG
      clear hm hrow hG hc hq hL
      go_wp2_with (first
        | (at_builtin; refine wpList_append_row _ rfl (.tmp 108) (.tmp 116) 31 rfl base 5 i0 (.int .u8 0) 1 1 Tryz.underlying31 hi hz0 hz1 hz2 rfl (by decide) _ (Y.length + j) (u8s L) rfl ((unhide HROW).alloc _) ⟨wr.heap.size, 0, none⟩ 1 1 [.int .u8 (c : Nat)] rfl rfl (kp_one _ _ _) ?a1 (by decide) ?a2 ?a3 ?a4 ?_))
      case a1 => first | rfl | (intro u hu; simp at hu; rw [hu]; rfl)
      case a2 => unfold maxLen; omega
      case a3 => omega
      case a4 => first | omega | (simp; omega)
      intro g5 c5 w5 hown5 hgr5 hg5
      have hM5 := (unhide HM).app (N := [c]) (va' := .slice (some ⟨g5, 0, none⟩) (Y.length + j + 1) c5) ((Step.refl _ _).alloc _) hgr5 (by rw [hgl]; exact hown5) (fun g hg => by
        simp only [Value.ownBlock, Option.some.injEq] at hg
        subst hg
        rw [World.size_alloc]
        exact hg5)
      rw [← unhide HG] at hM5
      have HM5 := hide hM5
      clear hM5 hown5 hgr5 hg5
      go_wp2_with fail
      go_roundg (gk - 1)
      case measure => omega
      case rel => exact ⟨j + 1, g5, c5, by go_num, by omega, rfl, unhide HM5⟩
    · have hlt' : ¬ (j : Int) < (n : Int) := by omega
      obtain rfl : j = n := by omega
      clear hm
      go_wp2_with fail
      exact unhide HX _ _ _ _ _ _ _ _ _ _ _ _ _ _ _ _ g cc wr (unhide HM)
end Go.Proofs.YtbpahojchgpdnaaGreatDoor

namespace Go.Proofs.YtbpahojchgpdnaaGreatDoor
open Go.RowKit Go.Bel

def lenBase (s : Nat) : Nat := (4 + (s - 265) % 4) * 2 ^ ((s - 261) / 4) + 3
def distBase (d : Nat) : Nat := (2 + d % 2) * 2 ^ (d / 2 - 1) + 1
theorem lenBase_next : ∀ i, i < 20 → lenBase (265 + i + 1) = lenBase (265 + i) + 2 ^ ((265 + i - 261) / 4) ∧ (265 + i - 261) / 4 ≤ 5 ∧ lenBase (265 + i) ≤ 300 := by decide +kernel
theorem distBase_next : ∀ i, i < 26 → distBase (4 + i + 1) = distBase (4 + i) + 2 ^ ((4 + i) / 2 - 1) ∧ (4 + i) / 2 - 1 ≤ 13 ∧ distBase (4 + i) ≤ 40000 := by decide +kernel

theorem lenBase_285 : lenBase (284 + 1) = 259 := by decide +kernel
theorem lenBase_265 : lenBase (264 + 1) = 11 := by decide +kernel
theorem distBase_30 : distBase (29 + 1) = 32769 := by decide +kernel
theorem distBase_4 : distBase (3 + 1) = 5 := by decide +kernel
theorem pow_wrap (e : Nat) (h : e ≤ 13) : wrap64 ((2 : Int) ^ e) = ((2 ^ e : Nat) : Int) ∧ 2 ^ e ≤ 8192 := by
  have hc : e = 0 ∨ e = 1 ∨ e = 2 ∨ e = 3 ∨ e = 4 ∨ e = 5 ∨ e = 6 ∨ e = 7 ∨ e = 8 ∨ e = 9 ∨ e = 10 ∨ e = 11 ∨ e = 12 ∨ e = 13 := by omega
  rcases hc with rfl | rfl | rfl | rfl | rfl | rfl | rfl | rfl | rfl | rfl | rfl | rfl | rfl | rfl <;> exact ⟨by unfold wrap64; omega, by decide⟩
theorem wrap_small (x : Int) (n : Nat) (h : x = (n : Int)) (hn : n ≤ 1000000) : wrap64 x = (n : Int) := by
  subst h
  unfold wrap64
  omega

set_option maxRecDepth 20000 in
set_option maxHeartbeats 1000000 in
theorem lengthCode_ok (n : Nat) (w : World) (h3 : 3 ≤ n) (h258 : n ≤ 258) :
    Calls Tryz.prog 20 #[.int .i64 (n : Nat)] w fun e w' => ∃ s x m : Nat, e = .returned (.tuple #[.int .i64 (s : Nat), .int .i64 (m : Nat), .int .i64 (x : Nat)]) ∧ LenM n s x m ∧ w' = w := by
  by_cases c1 : n = 258
  · subst c1
    go_enter Tryz.func20, Tryz.ntmps20
    go_wp2_with fail
    refine bodyPost_ret (v := .tuple #[.int .i64 285, .int .i64 0, .int .i64 0]) (by simp [results, Tryz.results20, go_sem]) rfl ?_
    exact ⟨285, 0, 0, rfl, .inl ⟨rfl, rfl, rfl, rfl⟩, rfl⟩
  have c1' : ((n : Int) == 258) = false := beq_eq_false_iff_ne.2 (by omega)
  by_cases c2 : n < 11
  · have c2' : (n : Int) < 11 := by omega
    go_enter Tryz.func20, Tryz.ntmps20
    go_wp2_with fail
    refine bodyPost_ret (v := .tuple #[.int .i64 (254 + (n : Int)), .int .i64 0, .int .i64 0]) (by simp [results, Tryz.results20, go_sem]) rfl ?_
    refine ⟨254 + n, 0, 0, ?_, .inr (.inl ⟨by omega, by omega, by omega, rfl, rfl⟩), rfl⟩
    rw [show ((254 + n : Nat) : Int) = 254 + (n : Int) by omega]
    rfl
  · have c2' : ¬ (n : Int) < 11 := by omega
    go_enter Tryz.func20, Tryz.ntmps20
    go_wp2_with fail
    go_loopg [5, 6, 7] 21 (fun k u5 u6 u7 wr => ∃ s : Nat, u5 = .int .i64 (s : Nat) ∧ k + 264 = s + 1 ∧ s ≤ 284 ∧ 264 ≤ s ∧ n < lenBase (s + 1) ∧ wr = w)
    case atStart => exact ⟨284, rfl, by omega, by omega, by omega, by rw [lenBase_285]; omega, rfl⟩
    case round =>
      obtain ⟨s, rfl, hk, hs284, hs264, hlt, rfl⟩ := hrel
      by_cases hs : 265 ≤ s
      · have hs' : (s : Int) ≥ 265 := by omega
        have hb := lenBase_next (s - 265) (by omega)
        rw [show 265 + (s - 265) = s by omega] at hb
        obtain ⟨e, he⟩ : ∃ e, e = (s - 261) / 4 := ⟨_, rfl⟩
        obtain ⟨q, hq⟩ : ∃ q, q = (s - 265) % 4 := ⟨_, rfl⟩
        have he' : ((s : Int) - 261) / 4 = (e : Int) := by omega
        have hq' : ((s : Int) - 265) % 4 = (q : Int) := by omega
        have he64 : e < 64 := by omega
        have hlb : lenBase s = (4 + q) * 2 ^ e + 3 := by unfold lenBase; rw [← he, ← hq]
        rw [← he] at hb
        obtain ⟨P, hP⟩ : ∃ P : Nat, P = 2 ^ e := ⟨_, rfl⟩
        obtain ⟨M, hM⟩ : ∃ M : Nat, M = (4 + q) * P := ⟨_, rfl⟩
        rw [← hP] at hlb hb
        rw [← hM] at hlb
        have hpw := pow_wrap e (by omega)
        have hP1 : wrap64 ((2 : Int) ^ e) = (P : Int) := by rw [hP]; exact hpw.1
        have hM1 : wrap64 ((4 + (q : Int)) * (P : Int)) = (M : Int) := wrap_small _ M (by rw [hM]; simp) (by
          have h9 := hb.2.2
          rw [hlb] at h9
          exact Nat.le_trans (Nat.le_trans (Nat.le_add_right _ _) h9) (by decide))
        have hMl : M ≤ 300 := by
          have h9 := hb.2.2
          rw [hlb] at h9
          exact Nat.le_trans (Nat.le_add_right _ _) h9
        have HB := hide hb
        have HLT := hide hlt
        have HLB := hide hlb
        have HE := hide he
        have HQ := hide hq
        have HP := hide hP
        have HMM := hide hM
        clear hb hlt hlb he hq hP hM hpw
        by_cases hge : M + 3 ≤ n
        · have hge' : (n : Int) ≥ (M : Int) + 3 := by omega
          go_wp2_with fail
          refine bodyPost_ret (v := .tuple #[.int .i64 (s : Nat), .int .i64 (((s : Int) - 261) / 4), .int .i64 ((n : Int) - ((M : Int) + 3))]) (by simp [results, Tryz.results20, go_sem]) rfl ?_
          refine ⟨s, n - (M + 3), e, ?_, .inr (.inr ⟨hs, by omega, unhide HE, ?_, ?_, (unhide HB).2.1⟩), rfl⟩
          · rw [he', show (n : Int) - ((M : Int) + 3) = ((n - (M + 3) : Nat) : Int) by omega]
          · have h1 := unhide HLB
            rw [← unhide HQ, ← unhide HP, ← unhide HMM]
            omega
          · have h1 := unhide HLB
            have h2 := (unhide HB).1
            have h3 := unhide HLT
            rw [← unhide HP]
            omega
        · have hge' : ¬ (n : Int) ≥ (M : Int) + 3 := by omega
          go_wp2_with fail
          go_roundg (gk - 1)
          case measure => omega
          case rel => exact ⟨s - 1, by rw [show ((s - 1 : Nat) : Int) = (s : Int) - 1 by omega], by omega, by omega, by omega, by rw [show s - 1 + 1 = s by omega, unhide HLB]; omega, rfl⟩
      · exfalso
        have hs4 : s = 264 := by omega
        rw [hs4, lenBase_265] at hlt
        omega

set_option maxRecDepth 20000 in
set_option maxHeartbeats 1000000 in
theorem distanceCode_ok (n : Nat) (w : World) (h1 : 1 ≤ n) (h2 : n ≤ 32768) :
    Calls Tryz.prog 22 #[.int .i64 (n : Nat)] w fun e w' => ∃ s x m : Nat, e = .returned (.tuple #[.int .i64 (s : Nat), .int .i64 (m : Nat), .int .i64 (x : Nat)]) ∧ DistM n s x m ∧ w' = w := by
  by_cases c2 : n < 5
  · have c2' : (n : Int) < 5 := by omega
    go_enter Tryz.func22, Tryz.ntmps22
    go_wp2_with fail
    refine bodyPost_ret (v := .tuple #[.int .i64 ((n : Int) - 1), .int .i64 0, .int .i64 0]) (by simp [results, Tryz.results22, go_sem]) rfl ?_
    refine ⟨n - 1, 0, 0, ?_, .inl ⟨by omega, by omega, rfl, rfl⟩, rfl⟩
    rw [show ((n - 1 : Nat) : Int) = (n : Int) - 1 by omega]
    rfl
  · have c2' : ¬ (n : Int) < 5 := by omega
    go_enter Tryz.func22, Tryz.ntmps22
    go_wp2_with fail
    go_loopg [5, 6, 7] 27 (fun k u5 u6 u7 wr => ∃ s : Nat, u5 = .int .i64 (s : Nat) ∧ k + 3 = s + 1 ∧ s ≤ 29 ∧ 3 ≤ s ∧ n < distBase (s + 1) ∧ wr = w)
    case atStart => exact ⟨29, rfl, by omega, by omega, by omega, by rw [distBase_30]; omega, rfl⟩
    case round =>
      obtain ⟨s, rfl, hk, hs284, hs264, hlt, rfl⟩ := hrel
      by_cases hs : 4 ≤ s
      · have hs' : (s : Int) ≥ 4 := by omega
        have hb := distBase_next (s - 4) (by omega)
        rw [show 4 + (s - 4) = s by omega] at hb
        obtain ⟨e, he⟩ : ∃ e, e = s / 2 - 1 := ⟨_, rfl⟩
        obtain ⟨q, hq⟩ : ∃ q, q = s % 2 := ⟨_, rfl⟩
        have he' : (s : Int) / 2 - 1 = (e : Int) := by omega
        have hq' : (s : Int) % 2 = (q : Int) := by omega
        have he64 : e < 64 := by omega
        have hlb : distBase s = (2 + q) * 2 ^ e + 1 := by unfold distBase; rw [← he, ← hq]
        rw [← he] at hb
        obtain ⟨P, hP⟩ : ∃ P : Nat, P = 2 ^ e := ⟨_, rfl⟩
        obtain ⟨M, hM⟩ : ∃ M : Nat, M = (2 + q) * P := ⟨_, rfl⟩
        rw [← hP] at hlb hb
        rw [← hM] at hlb
        have hpw := pow_wrap e hb.2.1
        have hP1 : wrap64 ((2 : Int) ^ e) = (P : Int) := by rw [hP]; exact hpw.1
        have hM1 : wrap64 ((2 + (q : Int)) * (P : Int)) = (M : Int) := wrap_small _ M (by rw [hM]; simp) (by
          have h9 := hb.2.2
          rw [hlb] at h9
          exact Nat.le_trans (Nat.le_trans (Nat.le_add_right _ _) h9) (by decide))
        have hMl : M ≤ 40000 := by
          have h9 := hb.2.2
          rw [hlb] at h9
          exact Nat.le_trans (Nat.le_add_right _ _) h9
        have HB := hide hb
        have HLT := hide hlt
        have HLB := hide hlb
        have HE := hide he
        have HQ := hide hq
        have HP := hide hP
        have HMM := hide hM
        clear hb hlt hlb he hq hP hM hpw
        by_cases hge : M + 1 ≤ n
        · have hge' : (n : Int) ≥ (M : Int) + 1 := by omega
          go_wp2_with fail
          refine bodyPost_ret (v := .tuple #[.int .i64 (s : Nat), .int .i64 (e : Nat), .int .i64 ((n : Int) - ((M : Int) + 1))]) (by simp [results, Tryz.results22, go_sem]) rfl ?_
          refine ⟨s, n - (M + 1), e, ?_, .inr ⟨hs, by omega, unhide HE, ?_, ?_, (unhide HB).2.1⟩, rfl⟩
          · rw [show (n : Int) - ((M : Int) + 1) = ((n - (M + 1) : Nat) : Int) by omega]
          · have h1 := unhide HLB
            rw [← unhide HQ, ← unhide HP, ← unhide HMM]
            omega
          · have h1 := unhide HLB
            have h2 := (unhide HB).1
            have h3 := unhide HLT
            rw [← unhide HP]
            omega
        · have hge' : ¬ (n : Int) ≥ (M : Int) + 1 := by omega
          go_wp2_with fail
          go_roundg (gk - 1)
          case measure => omega
          case rel => exact ⟨s - 1, by rw [show ((s - 1 : Nat) : Int) = (s : Int) - 1 by omega], by omega, by omega, by omega, by rw [show s - 1 + 1 = s by omega, unhide HLB]; omega, rfl⟩
      · exfalso
        have hs4 : s = 3 := by omega
        rw [hs4, distBase_4] at hlt
        omega
end Go.Proofs.YtbpahojchgpdnaaGreatDoor

namespace Go.Proofs.YtbpahojchgpdnaaGreatDoor
open Go.RowKit Go.Bel

/- copies that are handed in -/
def CvIn (w : World) (a : Option Addr) (cs : List (Int × Int)) : Prop := ∀ i p, cs[i]? = some p → ∃ j off, a = some ⟨j, off, none⟩ ∧ w.cell? ⟨j, off + i * 2, none⟩ = some (.int .i64 p.1) ∧ w.cell? ⟨j, off + i * 2 + 1, none⟩ = some (.int .i64 p.2) ∧ (-9223372036854775808 ≤ p.1 ∧ p.1 ≤ 9223372036854775807) ∧ (-9223372036854775808 ≤ p.2 ∧ p.2 ≤ 9223372036854775807)

set_option maxRecDepth 100000 in
set_option maxHeartbeats 4000000 in
theorem copies_loop2 (s : ByteArray) (a : Option Addr) (cs : List (Int × Int)) (cap b base g0 c0 : Nat) (Y0 : List Nat) (v0 : Value) (ps0 : List Pc) (pb0 : List Bool) (w1 w0 : World) (hcs : cs.length ≤ 4611686018427387904) (hcv : CvIn w1 a cs) (h00 : 0 < Y0.length) (hY0 : Y0.length ≤ 140737488351232) (h0 : KpM w1 w0 b base v0 (.slice (some ⟨g0, 0, none⟩) Y0.length c0) Y0 (beginBits true 1 ++ pb0)) (hb0 : KpB Y0 ps0 pb0) (Q0 : Exit → Act → World → Prop)
    (fr2 fr3 fr4 fr5 fr6 fr7 fr10 fr12 fr13 fr14 fr15 fr16 fr17 fr18 fr19 fr20 fr21 fr22 fr23 fr24 fr25 fr26 fr27 fr28 fr29 fr30 fr31 fr32 fr33 fr34 fr35 fr36 fr37 fr38 fr39 fr40 fr41 fr42 fr43 fr44 fr45 fr46 fr47 fr48 fr49 fr50 fr51 fr52 fr53 fr54 fr55 fr56 fr57 fr58 fr59 fr60 fr61 fr62 fr63 fr64 fr65 fr66 fr67 fr68 fr69 fr70 fr71 fr72 fr73 fr74 fr75 fr76 fr77 fr78 fr79 fr80 fr81 fr82 fr83 fr84 fr85 fr86 fr87 fr88 fr89 fr90 fr91 fr92 fr93 fr94 fr95 fr96 fr97 fr98 fr99 fr100 fr101 fr102 fr103 fr104 fr105 fr106 fr107 fr108 fr109 fr110 fr111 fr112 fr113 fr114 fr115 fr116 fr117 fr118 fr119 fr120 fr121 fr122 fr123 fr124 fr125 fr126 fr127 fr128 fr129 fr130 fr131 fr132 fr133 fr134 fr135 fr136 fr137 fr138 fr139 fr140 fr141 fr142 fr143 fr144 fr145 fr146 fr147 fr148 fr149 fr150 fr151 fr152 fr153 fr154 fr155 fr156 fr157 fr158 fr159 fr160 fr161 fr162 fr163 fr164 fr165 fr166 fr167 fr168 fr169 fr170 fr171 fr172 fr173 fr174 fr175 fr176 fr177 fr178 fr179 fr180 fr181 fr182 fr183 fr184 fr185 fr186 fr187 fr188 fr189 : Value)
    (hexit : ∀ (x11 x12 x13 x14 x15 x16 x17 x49 x50 x51 x52 x53 x54 x55 x56 x57 x58 x59 x60 x61 x62 x63 x64 x65 x66 x67 x68 x69 x70 x71 x72 x73 x74 x75 x76 x77 x78 x79 x80 x81 x82 x83 x84 x85 x86 x87 x88 x89 x90 x91 x92 x93 x94 x95 x96 x97 x98 x99 x100 x101 x102 x103 x104 x105 x106 x107 x108 x109 x110 x111 x112 x113 x114 x115 x116 x117 : Value) (g cc : Nat) (wr : World) (v : Value) (Y : List Nat) (ps : List Pc) (pb : List Bool), KpM w1 wr b base v (.slice (some ⟨g, 0, none⟩) Y.length cc) Y (beginBits true 1 ++ pb) → KpB Y ps pb → 0 < Y.length → Y.length ≤ 140737488351232 → Q0 (.exit 2) ⟨(List.toArray ((.string s) :: (.slice a cs.length cap) :: fr2 :: fr3 :: fr4 :: fr5 :: fr6 :: fr7 :: (.pointer (some ⟨b, 0, none⟩)) :: (.slice (some ⟨g, 0, none⟩) Y.length cc) :: fr10 :: x11 :: x12 :: x13 :: x14 :: x15 :: x16 :: x17 :: fr18 :: fr19 :: fr20 :: fr21 :: fr22 :: fr23 :: fr24 :: fr25 :: fr26 :: fr27 :: fr28 :: fr29 :: fr30 :: fr31 :: fr32 :: fr33 :: fr34 :: fr35 :: fr36 :: fr37 :: fr38 :: fr39 :: fr40 :: fr41 :: fr42 :: fr43 :: fr44 :: fr45 :: fr46 :: fr47 :: fr48 :: x49 :: x50 :: x51 :: x52 :: x53 :: x54 :: x55 :: x56 :: x57 :: x58 :: x59 :: x60 :: x61 :: x62 :: x63 :: x64 :: x65 :: x66 :: x67 :: x68 :: x69 :: x70 :: x71 :: x72 :: x73 :: x74 :: x75 :: x76 :: x77 :: x78 :: x79 :: x80 :: x81 :: x82 :: x83 :: x84 :: x85 :: x86 :: x87 :: x88 :: x89 :: x90 :: x91 :: x92 :: x93 :: x94 :: x95 :: x96 :: x97 :: x98 :: x99 :: x100 :: x101 :: x102 :: x103 :: x104 :: x105 :: x106 :: x107 :: x108 :: x109 :: x110 :: x111 :: x112 :: x113 :: x114 :: x115 :: x116 :: x117 :: fr118 :: fr119 :: fr120 :: fr121 :: fr122 :: fr123 :: fr124 :: fr125 :: fr126 :: fr127 :: fr128 :: fr129 :: fr130 :: fr131 :: fr132 :: fr133 :: fr134 :: fr135 :: fr136 :: fr137 :: fr138 :: fr139 :: fr140 :: fr141 :: fr142 :: fr143 :: fr144 :: fr145 :: fr146 :: fr147 :: fr148 :: fr149 :: fr150 :: fr151 :: fr152 :: fr153 :: fr154 :: fr155 :: fr156 :: fr157 :: fr158 :: fr159 :: fr160 :: fr161 :: fr162 :: fr163 :: fr164 :: fr165 :: fr166 :: fr167 :: fr168 :: fr169 :: fr170 :: fr171 :: fr172 :: fr173 :: fr174 :: fr175 :: fr176 :: fr177 :: fr178 :: fr179 :: fr180 :: fr181 :: fr182 :: fr183 :: fr184 :: fr185 :: fr186 :: fr187 :: fr188 :: fr189 :: [])), []⟩ wr) :
    (kLoop Tryz.f6 1).wp Tryz.prog Q0 ⟨(List.toArray ((.string s) :: (.slice a cs.length cap) :: fr2 :: fr3 :: fr4 :: fr5 :: fr6 :: fr7 :: (.pointer (some ⟨b, 0, none⟩)) :: (.slice (some ⟨g0, 0, none⟩) Y0.length c0) :: fr10 :: (.int .i64 0) :: fr12 :: fr13 :: fr14 :: fr15 :: fr16 :: fr17 :: fr18 :: fr19 :: fr20 :: fr21 :: fr22 :: fr23 :: fr24 :: fr25 :: fr26 :: fr27 :: fr28 :: fr29 :: fr30 :: fr31 :: fr32 :: fr33 :: fr34 :: fr35 :: fr36 :: fr37 :: fr38 :: fr39 :: fr40 :: fr41 :: fr42 :: fr43 :: fr44 :: fr45 :: fr46 :: fr47 :: fr48 :: fr49 :: fr50 :: fr51 :: fr52 :: fr53 :: fr54 :: fr55 :: fr56 :: fr57 :: fr58 :: fr59 :: fr60 :: fr61 :: fr62 :: fr63 :: fr64 :: fr65 :: fr66 :: fr67 :: fr68 :: fr69 :: fr70 :: fr71 :: fr72 :: fr73 :: fr74 :: fr75 :: fr76 :: fr77 :: fr78 :: fr79 :: fr80 :: fr81 :: fr82 :: fr83 :: fr84 :: fr85 :: fr86 :: fr87 :: fr88 :: fr89 :: fr90 :: fr91 :: fr92 :: fr93 :: fr94 :: fr95 :: fr96 :: fr97 :: fr98 :: fr99 :: fr100 :: fr101 :: fr102 :: fr103 :: fr104 :: fr105 :: fr106 :: fr107 :: fr108 :: fr109 :: fr110 :: fr111 :: fr112 :: fr113 :: fr114 :: fr115 :: fr116 :: fr117 :: fr118 :: fr119 :: fr120 :: fr121 :: fr122 :: fr123 :: fr124 :: fr125 :: fr126 :: fr127 :: fr128 :: fr129 :: fr130 :: fr131 :: fr132 :: fr133 :: fr134 :: fr135 :: fr136 :: fr137 :: fr138 :: fr139 :: fr140 :: fr141 :: fr142 :: fr143 :: fr144 :: fr145 :: fr146 :: fr147 :: fr148 :: fr149 :: fr150 :: fr151 :: fr152 :: fr153 :: fr154 :: fr155 :: fr156 :: fr157 :: fr158 :: fr159 :: fr160 :: fr161 :: fr162 :: fr163 :: fr164 :: fr165 :: fr166 :: fr167 :: fr168 :: fr169 :: fr170 :: fr171 :: fr172 :: fr173 :: fr174 :: fr175 :: fr176 :: fr177 :: fr178 :: fr179 :: fr180 :: fr181 :: fr182 :: fr183 :: fr184 :: fr185 :: fr186 :: fr187 :: fr188 :: fr189 :: [])), []⟩ w0 := by
  conv => arg 2; whnf
  have HX := hide hexit
  have H0 := hide h0
  have HB0 := hide hb0
  clear hexit h0 hb0
  go_loopg [9, 11] cs.length (fun k u9 u11 wr => ∃ (i g cc : Nat) (v : Value) (Y : List Nat) (ps : List Pc) (pb : List Bool), u11 = .int .i64 (i : Nat) ∧ k + i = cs.length ∧ u9 = .slice (some ⟨g, 0, none⟩) Y.length cc ∧ KpM w1 wr b base v (.slice (some ⟨g, 0, none⟩) Y.length cc) Y (beginBits true 1 ++ pb) ∧ KpB Y ps pb ∧ 0 < Y.length ∧ Y.length ≤ 140737488351232)
  case atStart => exact ⟨0, g0, c0, v0, Y0, ps0, pb0, rfl, by omega, rfl, unhide H0, unhide HB0, h00, hY0⟩
  case round =>
    clear H0 HB0
    obtain ⟨i, g, cc, v, Y, ps, pb, rfl, hk, rfl, hm, hb, hYp, hYl⟩ := hrel
    have HM := hide hm
    have HB := hide hb
    have hbl := hb.small
    have hst := hm.st
    clear hm hb
    by_cases hlt : i < cs.length
    · have hlt' : (i : Int) < (cs.length : Int) := by omega
      have hi0 : (0 : Int) ≤ (i : Int) := by omega
      by_cases hsm : Y.length < 100000
      · have hsm' : (Y.length : Int) < 100000 := by omega
        obtain ⟨p, hp⟩ : ∃ p, cs[i]? = some p := ⟨_, List.getElem?_eq_getElem hlt⟩
        obtain ⟨j, off, rfl, k1, k2, k3, k4⟩ := hcv i p hp
        have e1 := hst.cell k1 (fun x => x)
        have e2 := hst.cell k2 (fun x => x)
        clear hst
        go_wp2_with fail
        refine (pick_any p.1 256 wr k3.1 k3.2 (by omega) (by omega)).mono ?_
        rintro e wq ⟨r1, hr1, rfl, rfl⟩
        obtain ⟨n, hn⟩ : ∃ n, n = 3 + r1 := ⟨_, rfl⟩
        have hn' : (3 : Int) + (r1 : Int) = (n : Int) := by omega
        have hn1 : 3 ≤ n ∧ n ≤ 258 := by omega
        clear hn
        obtain ⟨mn, hmn⟩ : ∃ mn, mn = min Y.length 32768 := ⟨_, rfl⟩
        have hmn' : (if (Y.length : Int) < 32768 then (Y.length : Int) else 32768) = (mn : Int) := by split <;> omega
        have hmn2 : (if (32768 : Int) < (Y.length : Int) then 32768 else (Y.length : Int)) = (mn : Int) := by split <;> omega
        go_wp2_with fail
        clear hmn' hmn2
        refine (pick_any p.2 (min Y.length 32768) wq k4.1 k4.2 (by omega) (by omega)).mono ?_
        rintro e wq ⟨r2, hr2, rfl, rfl⟩
        obtain ⟨dd, hdd⟩ : ∃ dd, dd = 1 + r2 := ⟨_, rfl⟩
        have hdd' : (1 : Int) + (r2 : Int) = (dd : Int) := by omega
        have hd1 : 1 ≤ dd ∧ dd ≤ Y.length ∧ dd ≤ 32768 := by omega
        clear hdd hr2
        go_wp2_with fail
        refine (lengthCode_ok n wq hn1.1 hn1.2).mono ?_
        rintro e wq ⟨s1, x1, m1, rfl, hM1, rfl⟩
        have hbd1 := hM1.bd
        have hx1 : x1 < 32 := Nat.lt_of_lt_of_le hbd1.1 (Nat.pow_le_pow_right (by omega) hbd1.2.1)
        have HC1 := hide (fixed_adds b base s1 v (beginBits true 1 ++ pb) wq (unhide HM).penOf (by rw [List.length_append, beginBits_length]; omega) (by omega))
        have hfl1 := fixedBits_length s1
        go_wp2_with fail
        refine (unhide HC1).mono ?_
        rintro e w2 ⟨rfl, v2, hp2, hw2⟩
        have HM2 := hide ((unhide HM).adds hp2 hw2)
        clear hp2 hw2 HC1
        have HC2 := hide (number_adds b base x1 m1 v2 (beginBits true 1 ++ pb ++ fixedBits s1) w2 (unhide HM2).penOf (by simp only [List.length_append, beginBits_length]; omega) (by omega) (by omega))
        go_wp2_with fail
        refine (unhide HC2).mono ?_
        rintro e w3 ⟨rfl, v3, hp3, hw3⟩
        have HM3 := hide ((unhide HM2).adds hp3 hw3)
        clear hp3 hw3 HC2
        go_wp2_with fail
        refine (distanceCode_ok dd w3 hd1.1 hd1.2.2).mono ?_
        rintro e wq2 ⟨s2, x2, m2, rfl, hM2, rfl⟩
        have hbd2 := hM2.bd
        have hx2 : x2 < 8192 := Nat.lt_of_lt_of_le hbd2.1 (Nat.pow_le_pow_right (by omega) hbd2.2.1)
        have HC3 := hide (code_adds b base s2 5 v3 (beginBits true 1 ++ pb ++ fixedBits s1 ++ numBits x1 m1) wq2 (unhide HM3).penOf (by simp only [List.length_append, beginBits_length, numBits_length]; omega) (by omega) (by omega))
        go_wp2_with fail
        refine (unhide HC3).mono ?_
        rintro e w4 ⟨rfl, v4, hp4, hw4⟩
        have HM4 := hide ((unhide HM3).adds hp4 hw4)
        clear hp4 hw4 HC3
        have HC4 := hide (number_adds b base x2 m2 v4 (beginBits true 1 ++ pb ++ fixedBits s1 ++ numBits x1 m1 ++ codeBits s2 5) w4 (unhide HM4).penOf (by simp only [List.length_append, beginBits_length, numBits_length, codeBits_length]; omega) (by omega) (by omega))
        go_wp2_with fail
        refine (unhide HC4).mono ?_
        rintro e w5 ⟨rfl, v5, hp5, hw5⟩
        have hM5 := (unhide HM4).adds hp5 hw5
        have HB5 := hide ((unhide HB).copy hn1.1 hn1.2 hd1.1 hd1.2.1 hd1.2.2 hM1 hM2)
        have e5 : beginBits true 1 ++ pb ++ fixedBits s1 ++ numBits x1 m1 ++ codeBits s2 5 ++ numBits x2 m2 = beginBits true 1 ++ (pb ++ (fixedBits s1 ++ numBits x1 m1 ++ codeBits s2 5 ++ numBits x2 m2)) := by simp only [List.append_assoc]
        rw [e5] at hM5
        have HM5 := hide hM5
        have hyb := (unhide HB).byte
        clear hp5 hw5 HC4 hM5 e5 hM1 hM2
        go_wp2_with fail
        refine copies_loop3 n dd b base g cc Y v5 _ w1 w5 hn1.2 hd1.1 hd1.2.1 (by omega) hyb (unhide HM5) _ _ _ _ _ _ _ _ _ _ _ _ _ _ _ _ _ _ _ _ _ _ _ _ _ _ _ _ _ _ _ _ _ _ _ _ _ _ _ _ _ _ _ _ _ _ _ _ _ _ _ _ _ _ _ _ _ _ _ _ _ _ _ _ _ _ _ _ _ _ _ _ _ _ _ _ _ _ _ _ _ _ _ _ _ _ _ _ _ _ _ _ _ _ _ _ _ _ _ _ _ _ _ _ _ _ _ _ _ _ _ _ _ _ _ _ _ _ _ _ _ _ _ _ _ _ _ _ _ _ _ _ _ _ _ _ _ _ _ _ _ _ _ _ _ _ _ _ _ _ _ _ _ _ _ _ _ _ _ _ _ _ _ _ _ _ _ _ _ _ _ _ _ _ _ _ _ _ _ _ _ _ _ _ _ _ _ ?_
        intro x17 x103 x104 x105 x106 x107 x108 x109 x110 x111 x112 x113 x114 x115 x116 x117 g6 c6 w6 hM6
        have hgl := growBy_length Y dd n
        have HM6 := hide hM6
        clear hM6
        go_wp2_with fail
        go_roundg (gk - 1)
        case measure => omega
        case rel =>
          refine ⟨i + 1, g6, c6, v5, growBy Y dd n, _, _, by go_num, by omega, by rw [hgl], ?_, unhide HB5, by omega, by omega⟩
          rw [hgl]
          exact unhide HM6
      · have hsm' : ¬ (Y.length : Int) < 100000 := by omega
        clear hst
        go_wp2_with fail
        exact unhide HX _ _ _ _ _ _ _ _ _ _ _ _ _ _ _ _ _ _ _ _ _ _ _ _ _ _ _ _ _ _ _ _ _ _ _ _ _ _ _ _ _ _ _ _ _ _ _ _ _ _ _ _ _ _ _ _ _ _ _ _ _ _ _ _ _ _ _ _ _ _ _ _ _ _ _ _ g cc wr v Y ps pb (unhide HM) (unhide HB) hYp hYl
    · have hlt' : ¬ (i : Int) < (cs.length : Int) := by omega
      clear hst
      go_wp2_with fail
      exact unhide HX _ _ _ _ _ _ _ _ _ _ _ _ _ _ _ _ _ _ _ _ _ _ _ _ _ _ _ _ _ _ _ _ _ _ _ _ _ _ _ _ _ _ _ _ _ _ _ _ _ _ _ _ _ _ _ _ _ _ _ _ _ _ _ _ _ _ _ _ _ _ _ _ _ _ _ _ g cc wr v Y ps pb (unhide HM) (unhide HB) hYp hYl
end Go.Proofs.YtbpahojchgpdnaaGreatDoor

namespace Go.Proofs.YtbpahojchgpdnaaGreatDoor
open Go.RowKit Go.Bel Go.Maps

/- a second writer at block b, and a row of bytes that is older -/
structure KpT (w1 wr : World) (b base base0 : Nat) (v va : Value) (R : List Nat) (bs : List Bool) : Prop where
  pen : Bw wr b base 33 5 v bs
  row : wr.ownsRow base0 5 1 va R.length (u8s R)
  off : ∀ g, va.ownBlock = some g → Off b v g
  st : Step (fun _ => False) w1 wr
  geo : w1.heap.size ≤ b ∧ b < base ∧ base ≤ wr.heap.size
theorem KpT.adds {w1 wr w' : World} {b base base0 : Nat} {v va v' : Value} {R : List Nat} {bs bs' : List Bool} (h : KpT w1 wr b base base0 v va R bs) (hp : Bw w' b base 33 5 v' bs') (hw : Wrt b wr v w' v') : KpT w1 w' b base base0 v' va R bs' := by
  have hz := hw.step.size
  obtain ⟨B, hB⟩ := h.pen
  refine ⟨hp, ownsRow_of_block h.row (fun k hk => hw.step.block k (h.row.lt k hk).2 (fun y => y.elim (h.off k hk).1 (h.off k hk).2)), fun g hg => (h.off g hg).wrt (h.row.lt g hg).2 hw, h.st.trans' hw.step (fun i hi y => ?_), ⟨h.geo.1, h.geo.2.1, by have := h.geo.2.2; omega⟩⟩
  rcases y with y | y
  · have := h.geo.1; omega
  · have h1 := (hB.row.own.lt i y).1
    have := h.geo
    omega
theorem KpT.penOf {w1 wr : World} {b base base0 : Nat} {v va : Value} {R : List Nat} {bs : List Bool} (h : KpT w1 wr b base base0 v va R bs) : Pen wr b base v bs := ⟨h.pen, h.geo.2.2⟩
theorem ba_back (l : List Nat) (h : ∀ i : Nat, l[i]?.getD 0 < 256) : bytesOf (baOf l) = l := by
  apply List.ext_getElem
  · rw [bytesOf_length]; simp [baOf, ByteArray.size]
  · intro i h1 h2
    have := h i
    rw [List.getElem?_eq_getElem h2] at this
    have h3 : l[i] < 256 := this
    simp [bytesOf, baOf]
    omega

noncomputable def copiesTail2 : Code := (Tryz.f6.body.bind (codeFrom 37)).getD .skip

set_option maxRecDepth 100000 in
set_option maxHeartbeats 4000000 in
theorem copies_tail2 (post : Ending → World → Prop) (fz : Int) (h1 : -9223372036854775808 ≤ fz) (h2 : fz ≤ 9223372036854775807) (w1 wc : World) (hpost : ∀ w', Step (fun _ => False) w1 w' → post (.returned (.bool true)) w') (hO : OrderAt w1) (h4 : 4 ≤ w1.heap.size) (g cc Cb base base0 : Nat) (v : Value) (Y : List Nat) (ps : List Pc) (pb : List Bool) (hm : KpT w1 wc Cb base base0 v (.slice (some ⟨g, 0, none⟩) Y.length cc) Y (beginBits true 1 ++ pb)) (hb : KpB Y ps pb) (hY : Y.length < 32768)
    (fr0 fr1 fr3 fr4 fr5 fr6 fr7 fr8 fr10 fr11 fr12 fr13 fr14 fr15 fr16 fr17 fr20 fr21 fr22 fr23 fr24 fr25 fr26 fr27 fr28 fr29 fr30 fr31 fr32 fr33 fr34 fr35 fr36 fr37 fr38 fr39 fr40 fr41 fr42 fr43 fr44 fr45 fr46 fr47 fr48 fr49 fr50 fr51 fr52 fr53 fr54 fr55 fr56 fr57 fr58 fr59 fr60 fr61 fr62 fr63 fr64 fr65 fr66 fr67 fr68 fr69 fr70 fr71 fr72 fr73 fr74 fr75 fr76 fr77 fr78 fr79 fr80 fr81 fr82 fr83 fr84 fr85 fr86 fr87 fr88 fr89 fr90 fr91 fr92 fr93 fr94 fr95 fr96 fr97 fr98 fr99 fr100 fr101 fr102 fr103 fr104 fr105 fr106 fr107 fr108 fr109 fr110 fr111 fr112 fr113 fr114 fr115 fr116 fr117 fr118 fr119 fr120 fr121 fr122 fr123 fr124 fr125 fr126 fr127 fr128 fr129 fr130 fr131 fr132 fr133 fr134 fr135 fr136 fr137 fr138 fr139 fr140 fr141 fr142 fr143 fr144 fr145 fr146 fr147 fr148 fr149 fr150 fr151 fr152 fr153 fr154 fr155 fr156 fr157 fr158 fr159 fr160 fr161 fr162 fr163 fr164 fr165 fr166 fr167 fr168 fr169 fr170 fr171 fr172 fr173 fr174 fr175 fr176 fr177 fr178 fr179 fr180 fr181 fr182 fr183 fr184 fr185 fr186 fr187 fr188 fr189 : Value) :
    copiesTail2.wp Tryz.prog (bodyPost Tryz.prog Tryz.f6 post) ⟨(List.toArray (fr0 :: fr1 :: (.int .i64 fz) :: fr3 :: fr4 :: fr5 :: fr6 :: fr7 :: fr8 :: (.slice (some ⟨g, 0, none⟩) Y.length cc) :: fr10 :: fr11 :: fr12 :: fr13 :: fr14 :: fr15 :: fr16 :: fr17 :: (.pointer (some ⟨Cb, 0, none⟩)) :: (.bool true) :: fr20 :: fr21 :: fr22 :: fr23 :: fr24 :: fr25 :: fr26 :: fr27 :: fr28 :: fr29 :: fr30 :: fr31 :: fr32 :: fr33 :: fr34 :: fr35 :: fr36 :: fr37 :: fr38 :: fr39 :: fr40 :: fr41 :: fr42 :: fr43 :: fr44 :: fr45 :: fr46 :: fr47 :: fr48 :: fr49 :: fr50 :: fr51 :: fr52 :: fr53 :: fr54 :: fr55 :: fr56 :: fr57 :: fr58 :: fr59 :: fr60 :: fr61 :: fr62 :: fr63 :: fr64 :: fr65 :: fr66 :: fr67 :: fr68 :: fr69 :: fr70 :: fr71 :: fr72 :: fr73 :: fr74 :: fr75 :: fr76 :: fr77 :: fr78 :: fr79 :: fr80 :: fr81 :: fr82 :: fr83 :: fr84 :: fr85 :: fr86 :: fr87 :: fr88 :: fr89 :: fr90 :: fr91 :: fr92 :: fr93 :: fr94 :: fr95 :: fr96 :: fr97 :: fr98 :: fr99 :: fr100 :: fr101 :: fr102 :: fr103 :: fr104 :: fr105 :: fr106 :: fr107 :: fr108 :: fr109 :: fr110 :: fr111 :: fr112 :: fr113 :: fr114 :: fr115 :: fr116 :: fr117 :: fr118 :: fr119 :: fr120 :: fr121 :: fr122 :: fr123 :: fr124 :: fr125 :: fr126 :: fr127 :: fr128 :: fr129 :: fr130 :: fr131 :: fr132 :: fr133 :: fr134 :: fr135 :: fr136 :: fr137 :: fr138 :: fr139 :: fr140 :: fr141 :: fr142 :: fr143 :: fr144 :: fr145 :: fr146 :: fr147 :: fr148 :: fr149 :: fr150 :: fr151 :: fr152 :: fr153 :: fr154 :: fr155 :: fr156 :: fr157 :: fr158 :: fr159 :: fr160 :: fr161 :: fr162 :: fr163 :: fr164 :: fr165 :: fr166 :: fr167 :: fr168 :: fr169 :: fr170 :: fr171 :: fr172 :: fr173 :: fr174 :: fr175 :: fr176 :: fr177 :: fr178 :: fr179 :: fr180 :: fr181 :: fr182 :: fr183 :: fr184 :: fr185 :: fr186 :: fr187 :: fr188 :: fr189 :: [])), []⟩ wc := by
  conv => arg 2; whnf
  have HPOST := hide hpost
  clear hpost
  have hbl := hb.small
  obtain ⟨q, hq⟩ : ∃ q, q = 32768 - Y.length := ⟨_, rfl⟩
  have hq' : (32768 : Int) - (Y.length : Int) = (q : Int) := by omega
  have hq1 : 0 < q ∧ q ≤ 32768 - Y.length := by omega
  have HM := hide hm
  have HB := hide hb
  clear hm hb hq
  go_wp2_with fail
  refine (pick_any fz q wc h1 h2 hq1.1 (by omega)).mono ?_
  rintro e wq ⟨r1, hr1, rfl, rfl⟩
  obtain ⟨dd, hdd⟩ : ∃ dd, dd = Y.length + 1 + r1 := ⟨_, rfl⟩
  have hdd' : (Y.length : Int) + 1 + (r1 : Int) = (dd : Int) := by omega
  have hd1 : 1 ≤ dd ∧ dd ≤ 32768 ∧ Y.length < dd := by omega
  clear hdd
  go_wp2_with fail
  refine (distanceCode_ok dd wq hd1.1 hd1.2.1).mono ?_
  rintro e wq ⟨s2, x2, m2, rfl, hM2, rfl⟩
  have hbd2 := hM2.bd
  have hx2 : x2 < 8192 := Nat.lt_of_lt_of_le hbd2.1 (Nat.pow_le_pow_right (by omega) hbd2.2.1)
  have hfl1 := fixedBits_length 257
  have HC1 := hide (fixed_adds Cb base 257 v (beginBits true 1 ++ pb) wq (unhide HM).penOf (by rw [List.length_append, beginBits_length]; omega) (by omega))
  go_wp2_with fail
  refine (unhide HC1).mono ?_
  rintro e w2 ⟨rfl, v2, hp2, hw2⟩
  have HM2 := hide ((unhide HM).adds hp2 hw2)
  clear hp2 hw2 HC1
  have HC3 := hide (code_adds Cb base s2 5 v2 (beginBits true 1 ++ pb ++ fixedBits 257) w2 (unhide HM2).penOf (by simp only [List.length_append, beginBits_length]; omega) (by omega) (by omega))
  go_wp2_with fail
  refine (unhide HC3).mono ?_
  rintro e w4 ⟨rfl, v4, hp4, hw4⟩
  have HM4 := hide ((unhide HM2).adds hp4 hw4)
  clear hp4 hw4 HC3
  have HC4 := hide (number_adds Cb base x2 m2 v4 (beginBits true 1 ++ pb ++ fixedBits 257 ++ codeBits s2 5) w4 (unhide HM4).penOf (by simp only [List.length_append, beginBits_length, codeBits_length]; omega) (by omega) (by omega))
  go_wp2_with fail
  refine (unhide HC4).mono ?_
  rintro e w5 ⟨rfl, v5, hp5, hw5⟩
  have hM5 := (unhide HM4).adds hp5 hw5
  clear hp5 hw5 HC4
  obtain ⟨B, hB⟩ := hM5.pen
  have hBall : AllB B := fun y hy => by
    obtain ⟨i, hi, rfl⟩ := List.getElem_of_mem hy
    have := hB.row.bits.byte i
    rw [List.getElem?_eq_getElem hi] at this
    exact this
  have hBlen := hB.len
  have hB0 : 0 < B.length ∧ B.length ≤ 1000000 := by
    rw [hBlen]
    simp only [List.length_append, beginBits_length, codeBits_length, numBits_length]
    omega
  obtain ⟨gb, cb, hvb, hSb, hgb, _⟩ := src_own hB.row.own hBall hB0.1 (by omega)
  obtain ⟨n, hrun⟩ := far_run (most := 1048576) (unhide HB).pcs (unhide HB).bits (unhide HB).byte hM2 hd1.2.2 hB.row.bits hBlen (by omega)
  have hO5 := hO.step hM5.st (fun _ _ x => x)
  have hz5 := hM5.st.size
  have HU := hide (unpackG gb 0 cb n 10 1048576 B Y 0 w5 hSb hgb hO5 (by omega) hrun)
  have hblk := hB.row.blk
  rw [hvb] at hblk
  obtain ⟨t0, t1, -, -⟩ := blk_two hblk
  have HM5 := hide hM5
  clear hM5 hrun hSb hO5 hblk hB hBlen
  generalize B.length = bl at *
  go_wp2_with fail
  refine (unhide HU).mono ?_
  rintro r w6 ⟨v6, rfl, hown6, hs6⟩
  have hYb := ba_back Y (unhide HB).byte
  obtain ⟨sy, hsy⟩ : ∃ sy, sy = baOf Y := ⟨_, rfl⟩
  rw [← hsy] at hYb
  have hz6 := hs6.size
  have hrowY := (unhide HM5).row
  obtain ⟨xa, xc, hv6⟩ := own_slice hown6
  have hcv1 := owned_string (s := sy) (v := v6) (W := w6.alloc (.cells #[.int .i64 10, v6, .int .i64 0, .string ⟨#[]⟩] 45)) (by rw [hYb]; exact hown6) (fun k hk => Below.heap_alloc _ _ _ (hown6.lt k hk).2)
  have hcv2 := owned_string (s := sy) (v := .slice (some ⟨g, 0, none⟩) Y.length cc) (W := w6.alloc (.cells #[.int .i64 10, v6, .int .i64 0, .string ⟨#[]⟩] 45)) (by rw [hYb]; exact hrowY) (fun k hk => (Below.heap_alloc _ _ _ (by have := (hrowY.lt k hk).2; omega)).trans (hs6.block k (hrowY.lt k hk).2 (fun x => x)))
  have hu0 : usedG 0 10 0 = 0 := rfl
  have HF := hide (((unhide HM5).st.trans hs6).alloc (.cells #[.int .i64 10, v6, .int .i64 0, .string ⟨#[]⟩] 45))
  subst hv6
  rw [hu0]
  clear hown6 hrowY hs6 HU HM5 HB hsy hYb
  go_wp2_with fail
  exact unhide HPOST _ (unhide HF)
end Go.Proofs.YtbpahojchgpdnaaGreatDoor

namespace Go.Proofs.YtbpahojchgpdnaaGreatDoor
open Go.RowKit Go.Bel Go.Maps

theorem KpT.far {w1 wr w' : World} {b base base0 : Nat} {v va : Value} {R : List Nat} {bs : List Bool} {S : Nat → Prop} (h : KpT w1 wr b base base0 v va R bs) (hs : Step S wr w') (hb : ¬ S b) (hv : ∀ k, v.ownBlock = some k → ¬ S k) (ha : ∀ k, va.ownBlock = some k → ¬ S k) (hst : Step (fun _ => False) w1 w') : KpT w1 w' b base base0 v va R bs := by
  have hz := hs.size
  obtain ⟨B, hB⟩ := h.pen
  exact ⟨h.pen.of (hs.block b (lt_of_block hB.row.blk) hb) (fun k hk => hs.block k (hB.row.own.lt k hk).2 (hv k hk)), ownsRow_of_block h.row (fun k hk => hs.block k (h.row.lt k hk).2 (ha k hk)), h.off, hst, ⟨h.geo.1, h.geo.2.1, by have := h.geo.2.2; omega⟩⟩

/- the second writer, as it is made: the same bits in a row of its own -/
theorem kp_cut {w1 wc wx wq : World} {b base bl Bl gq cq : Nat} {v va : Value} {Y B : List Nat} {bs : List Bool} (hm : KpM w1 wc b base v va Y bs) (hB : BitsAt wc b base 33 5 v bs B) (hbl : bl = bs.length) (hBl : Bl = B.length) (hsx : Step (fun _ => False) wc wx) (hsq : Step (fun _ => False) wx wq)
    (hbq : wq.heap[wc.heap.size]? = some (.cells #[.slice none 0 0, .int .i64 (bl : Nat)] 33 (0, 0))) (ho : wq.ownsRow (wc.heap.size + 1) 5 1 (.slice (some ⟨gq, 0, none⟩) Bl cq) Bl (u8s B)) :
    KpT w1 (wq.setCell ⟨wc.heap.size, 0, none⟩ (.slice (some ⟨gq, 0, none⟩) Bl cq)) wc.heap.size (wc.heap.size + 1) base (.slice (some ⟨gq, 0, none⟩) Bl cq) va Y bs ∧ KpM w1 (wq.setCell ⟨wc.heap.size, 0, none⟩ (.slice (some ⟨gq, 0, none⟩) Bl cq)) b base v va Y bs ∧ Off b v wc.heap.size ∧ ∀ k, (Value.slice (some ⟨gq, 0, none⟩) Bl cq).ownBlock = some k → Off b v k := by
  have hs : Step (fun _ => False) wc (wq.setCell ⟨wc.heap.size, 0, none⟩ (.slice (some ⟨gq, 0, none⟩) Bl cq)) := (hsx.trans hsq).setNew (Nat.le_refl _) _
  have hM := hm.step hs
  have hg := hm.geo
  have hzq := (hsx.trans hsq).size
  have hgq := ho.lt gq rfl
  have hoff : ∀ k, wc.heap.size ≤ k → Off b v k := fun k hk => ⟨by omega, fun e => by have := (hB.row.own.lt k e).2; omega⟩
  have hcb := lt_of_block hbq
  refine ⟨⟨⟨B, ⟨?_, ?_, hB.row.bits, by omega⟩, hB.len⟩, hM.row, fun k hk => ?_, hM.st, ⟨by have := hm.st.size; omega, by omega, by simp [World.setCell]; omega⟩⟩, hM, hoff _ (Nat.le_refl _), fun k hk => ?_⟩
  · have h9 := blk_set hbq 0 (.slice (some ⟨gq, 0, none⟩) Bl cq)
    rw [hbl] at h9
    simpa using h9
  · rw [← hBl]
    exact ownsRow_of_block ho (fun k hk => Below.heap_setCell _ _ _ _ (by
      simp only [Value.ownBlock, Option.some.injEq] at hk
      subst hk
      simp
      omega))
  · have h9 := (hm.row.lt k hk).2
    refine ⟨by omega, fun e => ?_⟩
    simp only [Value.ownBlock, Option.some.injEq] at e
    omega
  · simp only [Value.ownBlock, Option.some.injEq] at hk
    subst hk
    exact hoff _ (by omega)

noncomputable def copiesTail1 : Code := (Tryz.f6.body.bind (codeFrom 29)).getD .skip

set_option maxRecDepth 100000 in
set_option maxHeartbeats 4000000 in
theorem copies_tail1 (post : Ending → World → Prop) (fz : Int) (h1 : -9223372036854775808 ≤ fz) (h2 : fz ≤ 9223372036854775807) (w1 wA : World) (hpost : ∀ w', Step (fun _ => False) w1 w' → post (.returned (.bool true)) w') (hO : OrderAt w1) (h4 : 4 ≤ w1.heap.size) (g cc b base : Nat) (v : Value) (Y : List Nat) (ps : List Pc) (pb : List Bool) (hm : KpM w1 wA b base v (.slice (some ⟨g, 0, none⟩) Y.length cc) Y (beginBits true 1 ++ pb)) (hb : KpB Y ps pb) (hYp : 0 < Y.length) (hYg : Y.length ≤ 140737488351232)
    (fr0 fr1 fr3 fr4 fr5 fr6 fr7 fr10 fr11 fr12 fr13 fr14 fr15 fr16 fr17 fr18 fr19 fr20 fr21 fr22 fr23 fr24 fr25 fr26 fr27 fr28 fr29 fr30 fr31 fr32 fr33 fr34 fr35 fr36 fr37 fr38 fr39 fr40 fr41 fr42 fr43 fr44 fr45 fr46 fr47 fr48 fr49 fr50 fr51 fr52 fr53 fr54 fr55 fr56 fr57 fr58 fr59 fr60 fr61 fr62 fr63 fr64 fr65 fr66 fr67 fr68 fr69 fr70 fr71 fr72 fr73 fr74 fr75 fr76 fr77 fr78 fr79 fr80 fr81 fr82 fr83 fr84 fr85 fr86 fr87 fr88 fr89 fr90 fr91 fr92 fr93 fr94 fr95 fr96 fr97 fr98 fr99 fr100 fr101 fr102 fr103 fr104 fr105 fr106 fr107 fr108 fr109 fr110 fr111 fr112 fr113 fr114 fr115 fr116 fr117 fr118 fr119 fr120 fr121 fr122 fr123 fr124 fr125 fr126 fr127 fr128 fr129 fr130 fr131 fr132 fr133 fr134 fr135 fr136 fr137 fr138 fr139 fr140 fr141 fr142 fr143 fr144 fr145 fr146 fr147 fr148 fr149 fr150 fr151 fr152 fr153 fr154 fr155 fr156 fr157 fr158 fr159 fr160 fr161 fr162 fr163 fr164 fr165 fr166 fr167 fr168 fr169 fr170 fr171 fr172 fr173 fr174 fr175 fr176 fr177 fr178 fr179 fr180 fr181 fr182 fr183 fr184 fr185 fr186 fr187 fr188 fr189 : Value) :
    copiesTail1.wp Tryz.prog (bodyPost Tryz.prog Tryz.f6 post) ⟨(List.toArray (fr0 :: fr1 :: (.int .i64 fz) :: fr3 :: fr4 :: fr5 :: fr6 :: fr7 :: (.pointer (some ⟨b, 0, none⟩)) :: (.slice (some ⟨g, 0, none⟩) Y.length cc) :: fr10 :: fr11 :: fr12 :: fr13 :: fr14 :: fr15 :: fr16 :: fr17 :: fr18 :: fr19 :: fr20 :: fr21 :: fr22 :: fr23 :: fr24 :: fr25 :: fr26 :: fr27 :: fr28 :: fr29 :: fr30 :: fr31 :: fr32 :: fr33 :: fr34 :: fr35 :: fr36 :: fr37 :: fr38 :: fr39 :: fr40 :: fr41 :: fr42 :: fr43 :: fr44 :: fr45 :: fr46 :: fr47 :: fr48 :: fr49 :: fr50 :: fr51 :: fr52 :: fr53 :: fr54 :: fr55 :: fr56 :: fr57 :: fr58 :: fr59 :: fr60 :: fr61 :: fr62 :: fr63 :: fr64 :: fr65 :: fr66 :: fr67 :: fr68 :: fr69 :: fr70 :: fr71 :: fr72 :: fr73 :: fr74 :: fr75 :: fr76 :: fr77 :: fr78 :: fr79 :: fr80 :: fr81 :: fr82 :: fr83 :: fr84 :: fr85 :: fr86 :: fr87 :: fr88 :: fr89 :: fr90 :: fr91 :: fr92 :: fr93 :: fr94 :: fr95 :: fr96 :: fr97 :: fr98 :: fr99 :: fr100 :: fr101 :: fr102 :: fr103 :: fr104 :: fr105 :: fr106 :: fr107 :: fr108 :: fr109 :: fr110 :: fr111 :: fr112 :: fr113 :: fr114 :: fr115 :: fr116 :: fr117 :: fr118 :: fr119 :: fr120 :: fr121 :: fr122 :: fr123 :: fr124 :: fr125 :: fr126 :: fr127 :: fr128 :: fr129 :: fr130 :: fr131 :: fr132 :: fr133 :: fr134 :: fr135 :: fr136 :: fr137 :: fr138 :: fr139 :: fr140 :: fr141 :: fr142 :: fr143 :: fr144 :: fr145 :: fr146 :: fr147 :: fr148 :: fr149 :: fr150 :: fr151 :: fr152 :: fr153 :: fr154 :: fr155 :: fr156 :: fr157 :: fr158 :: fr159 :: fr160 :: fr161 :: fr162 :: fr163 :: fr164 :: fr165 :: fr166 :: fr167 :: fr168 :: fr169 :: fr170 :: fr171 :: fr172 :: fr173 :: fr174 :: fr175 :: fr176 :: fr177 :: fr178 :: fr179 :: fr180 :: fr181 :: fr182 :: fr183 :: fr184 :: fr185 :: fr186 :: fr187 :: fr188 :: fr189 :: [])), []⟩ wA := by
  conv => arg 2; whnf
  have HPOST := hide hpost
  clear hpost
  have hbl := hb.small
  by_cases hY1 : 1048576 < Y.length
  · have hYl : (Y.length : Int) > 1048576 := by omega
    have HF := hide hm.st
    clear hm hb
    go_wp2_with fail
    exact unhide HPOST _ (unhide HF)
  have hY : Y.length ≤ 1048576 := by omega
  have hYl : ¬ (Y.length : Int) > 1048576 := by omega
  clear hY1 hYg
  obtain ⟨B, hB⟩ := hm.pen
  have hBlen := hB.len
  have hlen3 : (beginBits true 1 ++ pb).length = 3 + pb.length := by rw [List.length_append, beginBits_length]
  have hB0 : 0 < B.length ∧ B.length ≤ 7000000 := by omega
  have hBall : AllB B := fun y hy => by
    obtain ⟨i, hi, rfl⟩ := List.getElem_of_mem hy
    have := hB.row.bits.byte i
    rw [List.getElem?_eq_getElem hi] at this
    exact this
  obtain ⟨gw, cw, hvw, hSw, hgw, hgwb⟩ := src_own hB.row.own hBall hB0.1 (by omega)
  have hblk := hB.row.blk
  rw [hvw] at hblk
  obtain ⟨t0, t1, -, -⟩ := blk_two hblk
  have hbl9 := lt_of_block hblk
  have hgeo := hm.geo
  obtain ⟨i0, hi, hz0, hz1, hz2⟩ := info_parts Tryz.info5
  have HM := hide hm
  have HB := hide hb
  have HBW := hide hB
  have HSW := hide hSw
  have hgoff := hm.off g rfl
  have hgl := (hm.row.lt g rfl).2
  clear hm hb hB hblk hSw
  obtain ⟨bl, hbl2⟩ : ∃ bl, bl = (beginBits true 1 ++ pb).length := ⟨_, rfl⟩
  rw [← hbl2] at t1
  have HBL := hide hbl2
  clear hbl2
  obtain ⟨Bl, hBl⟩ : ∃ Bl, Bl = B.length := ⟨_, rfl⟩
  rw [← hBl] at t0
  have HBl := hide hBl
  have hBl0 : 0 < Bl ∧ Bl ≤ 7000000 := by omega
  clear hBl
  go_upto_region 32 with fail
  obtain ⟨wx, hwx⟩ : ∃ wx, wx = wA.alloc (.cells #[.slice none 0 0, .int .i64 (bl : Nat)] 33) := ⟨_, rfl⟩
  have hsx : Step (fun _ => False) wA wx := by rw [hwx]; exact (Step.refl _ _).alloc _
  have hbx : wx.heap[wA.heap.size]? = some (.cells #[.slice none 0 0, .int .i64 (bl : Nat)] 33 (0, 0)) := by rw [hwx]; exact heap_alloc_new _ _
  have hzx : wx.heap.size = wA.heap.size + 1 := by rw [hwx]; simp
  rw [← hwx]
  have e0 := hsx.cell t0 (fun x => x)
  obtain ⟨y0, y1, yf0, -⟩ := blk_two hbx
  have hnews : ∀ j u, (u8s B)[j]? = some u → wx.drew.cell? ((⟨gw, 0, none⟩ : Addr).add j) = some u := by
    intro j u hj
    have hjl : j < B.length := by have := (List.getElem?_eq_some_iff.1 hj).1; simpa [u8s] using this
    have e : (⟨gw, 0, none⟩ : Addr).add j = ⟨gw, 0 + j, none⟩ := by unfold Addr.add; split <;> simp_all
    rw [u8s_get B j hjl] at hj
    rw [e]
    have hc := hsx.cell (p := ⟨gw, 0 + j, none⟩) ((unhide HSW).cell j hjl) (fun x => x)
    exact hc.trans hj
  have HNEWS := hide hnews
  have HBX := hide hbx
  have HSX := hide hsx
  clear hwx hnews hbx hsx t0 t1
  go_cut [] (fun wd => ∃ v', KpT w1 wd wA.heap.size (wA.heap.size + 1) base v' (.slice (some ⟨g, 0, none⟩) Y.length cc) Y (beginBits true 1 ++ pb) ∧ KpM w1 wd b base v (.slice (some ⟨g, 0, none⟩) Y.length cc) Y (beginBits true 1 ++ pb) ∧ Off b v wA.heap.size ∧ ∀ k, v'.ownBlock = some k → Off b v k)
  case first =>
    go_region_law (refine step_append_lies _ rfl (.tmp 127) (.tmp 131) 31 rfl (wA.heap.size + 1) 5 i0 (.int .u8 0) 1 1 Tryz.underlying31 hi hz0 hz1 hz2 rfl (by decide) (.slice none 0 0) 0 [] (by simp [Act.eval]) (World.ownsRow_nil _ _ _ _) ⟨gw, 0, none⟩ Bl cw (u8s B) (by simp [Act.eval]) (by rw [u8s_length, unhide HBl, Nat.mul_one]) (unhide HNEWS) (u8s_one _) hBl0.1 (by unfold maxLen; omega) (by omega) (by show wA.heap.size + 1 ≤ wx.heap.size; omega) _ rfl ?_; intro gq cq wq hownq hgrq hgq hglq; have hbq := (hgrq.block wA.heap.size (by show wA.heap.size < wx.heap.size; omega) (by simp [Value.ownBlock])).trans (unhide HBX); obtain ⟨z0, z1, zf0, -⟩ := blk_two hbq; have HBQ := hide hbq; have HOQ := hide hownq; have HGQ := hide hgrq; have HGG := hide hgq; clear hbq hownq hgrq hgq)
    all_goals go_wp2_with fail
    all_goals go_meet
    all_goals exact ⟨_, kp_cut (unhide HM) (unhide HBW) (unhide HBL) (unhide HBl) (unhide HSX) (((Step.refl _ _).drew).grown (unhide HGQ) (fun k hk => by simp [Value.ownBlock] at hk)) (unhide HBQ) (by have h9 := unhide HOQ; rw [Nat.zero_add, List.nil_append] at h9; exact h9)⟩
  case rest =>
    obtain ⟨v', hT, hM, hoC, hoV⟩ := hcut
    have HT := hide hT
    have HM1 := hide hM
    have hfl := fixedBits_length 256
    have HC1 := hide (fixed_adds b base 256 v (beginBits true 1 ++ pb) wc hM.penOf (by omega) (by omega))
    clear hT hM HM HBW HSW HNEWS HBX HSX
    go_wp2_with fail
    refine (unhide HC1).mono ?_
    rintro e w4 ⟨rfl, v4, hp4, hw4⟩
    have hM4 := (unhide HM1).adds hp4 hw4
    have hT4 := (unhide HT).far hw4.step (fun y => y.elim hoC.1 hoC.2) (fun k hk y => y.elim (hoV k hk).1 (hoV k hk).2) (fun k hk y => y.elim ((unhide HM1).off k hk).1 ((unhide HM1).off k hk).2) hM4.st
    clear hp4 hw4 HC1
    obtain ⟨B4, hB4⟩ := hM4.pen
    have hB4len := hB4.len
    have hlen4 : (beginBits true 1 ++ pb ++ fixedBits 256).length ≤ 3 + pb.length + 9 := by rw [List.length_append, hlen3]; omega
    have hlen4b : 3 ≤ (beginBits true 1 ++ pb ++ fixedBits 256).length := by rw [List.length_append, hlen3]; omega
    have hB40 : 0 < B4.length ∧ B4.length ≤ 7000000 := by omega
    have hB4all : AllB B4 := fun y hy => by
      obtain ⟨i, hi, rfl⟩ := List.getElem_of_mem hy
      have := hB4.row.bits.byte i
      rw [List.getElem?_eq_getElem hi] at this
      exact this
    obtain ⟨gx, cx, hvx, hSx, hgx, _⟩ := src_own hB4.row.own hB4all hB40.1 (by omega)
    have hblk4 := hB4.row.blk
    rw [hvx] at hblk4
    obtain ⟨t0, t1, -, -⟩ := blk_two hblk4
    have hRd := fix_reads (unhide HB).fixed (unhide HB).byte hB4.row.bits hB4len
    have hYb := ba_back Y (unhide HB).byte
    obtain ⟨sy, hsy⟩ : ∃ sy, sy = baOf Y := ⟨_, rfl⟩
    rw [← hsy] at hYb
    have hsz : sy.size = Y.length := by rw [← bytesOf_length, hYb]
    obtain ⟨n1, r1⟩ := reads_at0 hRd (X := []) (most := sy.size) (by rw [List.append_nil]; exact all_get hB4all) (by omega)
    obtain ⟨n2, r2⟩ := reads_at0 hRd (X := [255, 0, 7]) (most := asked ((sy.size + 9 : Nat) : Int)) (all_get (fun y hy => by
      rcases List.mem_append.1 hy with hy | hy
      · exact hB4all y hy
      · simp at hy; omega)) (by unfold asked; split <;> (try split) <;> omega)
    rw [List.append_nil] at r1
    rw [← hYb] at r1 r2
    have hz4 := hM4.st.size
    have HRD := hide (fun (W : World) (hW : Step (fun _ => False) w4 W) => readsG_ok gx cx n1 n2 B4 sy (8 * B4.length) (8 * B4.length) W (hSx.step hW (fun x => x)) (by have := hW.size; omega) (hO.step (hM4.st.trans hW) (fun _ _ x => x)) (by have := hW.size; omega) (by omega) hB40.1 (by omega) r1 (by omega) r2 (by omega))
    have hrowY := hM4.row
    have hcv := owned_string (s := sy) (v := .slice (some ⟨g, 0, none⟩) Y.length cc) (W := w4.drew) (by rw [hYb]; exact hrowY) (fun k hk => rfl)
    have HT4 := hide hT4
    have HST4 := hide hM4.st
    have HYL := hide hsz
    clear hT4 hM4 hB4 hB4len hblk4 hSx hRd hYb hsy r1 r2 hrowY HT HM1 hoC hoV hsz hvx
    obtain ⟨b4, hb4⟩ : ∃ b4, b4 = B4.length := ⟨_, rfl⟩
    rw [← hb4] at t0 HRD
    clear hb4
    go_upto_region 34 with fail
    go_cut [19] (fun r wd => r = .bool true ∧ Step (fun _ => False) w4 wd)
    case first =>
      go_region_with (go_at_call 24; refine (unhide HRD _ ((Step.refl _ _).drew)).mono ?_; rintro e wq ⟨rfl, hsq⟩)
      all_goals go_wp2_with fail
      all_goals go_meet
      all_goals exact ⟨rfl, ((Step.refl _ _).drew).trans hsq⟩
    case rest =>
      obtain ⟨rfl, hsd⟩ := hcut
      have hTd := (unhide HT4).far hsd (fun x => x) (fun _ _ x => x) (fun _ _ x => x) ((unhide HST4).trans hsd)
      have HTD := hide hTd
      have HFIN := hide ((unhide HST4).trans hsd)
      clear hTd hsd HT4 HST4 HRD hcv t0 t1
      by_cases hbig : 32768 ≤ Y.length
      · have hbig' : (Y.length : Int) ≥ 32768 := by omega
        go_wp2_with fail
        exact unhide HPOST _ (unhide HFIN)
      · have hbig' : ¬ (Y.length : Int) ≥ 32768 := by omega
        go_upto_if 145 with fail
        go_cut [] (fun wd => wd = wc)
        case first =>
          go_wp2_with fail
          go_meet
          rfl
        case rest =>
          subst hcut
          rename_i K hK
          refine hK _ _ ?_
          exact copies_tail2 post fz h1 h2 w1 _ (unhide HPOST) hO h4 g cc _ _ base v' Y ps pb (unhide HTD) (unhide HB) (by omega) _ _ _ _ _ _ _ _ _ _ _ _ _ _ _ _ _ _ _ _ _ _ _ _ _ _ _ _ _ _ _ _ _ _ _ _ _ _ _ _ _ _ _ _ _ _ _ _ _ _ _ _ _ _ _ _ _ _ _ _ _ _ _ _ _ _ _ _ _ _ _ _ _ _ _ _ _ _ _ _ _ _ _ _ _ _ _ _ _ _ _ _ _ _ _ _ _ _ _ _ _ _ _ _ _ _ _ _ _ _ _ _ _ _ _ _ _ _ _ _ _ _ _ _ _ _ _ _ _ _ _ _ _ _ _ _ _ _ _ _ _ _ _ _ _ _ _ _ _ _ _ _ _ _ _ _ _ _ _ _ _ _ _ _ _ _ _ _ _ _ _ _ _ _ _ _ _ _ _ _ _ _ _ _ _ _ 
end Go.Proofs.YtbpahojchgpdnaaGreatDoor

namespace Go.Proofs.YtbpahojchgpdnaaGreatDoor
open Go.RowKit Go.Bel Go.Maps

theorem empty_isEmpty : (⟨#[]⟩ : ByteArray).toList.isEmpty = true := by kernel_rfl
theorem kp_str (s : ByteArray) : Lib.strCells s = u8s (bytesOf s) := by
  unfold Lib.strCells u8s bytesOf
  simp

set_option maxRecDepth 100000 in
set_option maxHeartbeats 4000000 in
theorem copies_true (s : ByteArray) (a : Option Addr) (cs : List (Int × Int)) (cap : Nat) (fz : Int) (h1 : -9223372036854775808 ≤ fz) (h2 : fz ≤ 9223372036854775807) (w : World) (hs : s.size ≤ 140737488351232) (hcs : cs.length ≤ 4611686018427387904) (hcv : CvIn w a cs) (hO : OrderAt w) (h4 : 4 ≤ w.heap.size) :
    Calls Tryz.prog 6 #[.string s, .slice a cs.length cap, .int .i64 fz] w fun e w' => e = .returned (.bool true) ∧ Step (fun _ => False) w w' := by
  have HKN := hide (known_ok w hO h4)
  go_enter Tryz.func6, Tryz.ntmps6
  go_wp2_with fail
  refine (unhide HKN).mono ?_
  rintro r w1 ⟨rfl, hs1⟩
  have HS1 := hide hs1
  have hz1 := hs1.size
  have hO1 := hO.step hs1 (fun _ _ x => x)
  have hcv1 : CvIn w1 a cs := fun i p hp => by
    obtain ⟨j, off, e1, e2, e3, e4⟩ := hcv i p hp
    exact ⟨j, off, e1, hs1.cell e2 (fun x => x), hs1.cell e3 (fun x => x), e4⟩
  have HO1 := hide hO1
  have HCV := hide hcv1
  clear hs1 HKN hO1 hcv1 hcv hO
  go_upto_if 29 with fail
  go_cut [0] (fun t wd => ∃ z : ByteArray, t = .string z ∧ 0 < z.size ∧ z.size ≤ 140737488351232 ∧ wd = w1)
  case first =>
    cases hse : s.toList.isEmpty
    · go_wp2_with fail
      go_meet
      refine ⟨s, rfl, ?_, hs, rfl⟩
      rcases Nat.eq_zero_or_pos s.size with h0 | h0
      · exfalso
        have he : s = ⟨#[]⟩ := by
          apply ByteArray.ext
          exact Array.eq_empty_of_size_eq_zero h0
        rw [he, empty_isEmpty] at hse
        cases hse
      · exact h0
    · go_wp2_with fail
      go_meet
      exact ⟨⟨#[120]⟩, rfl, by decide, by decide, rfl⟩
  case rest =>
    obtain ⟨z, rfl, hzp, hzl, rfl⟩ := hcut
    go_wp2_with fail
    obtain ⟨b, hb⟩ : ∃ b, b = wc.heap.size := ⟨_, rfl⟩
    obtain ⟨w2, hw2⟩ : ∃ w2, w2 = wc.alloc (.cells #[.slice none 0 0, .int .i64 0] 33) := ⟨_, rfl⟩
    have hst2 : Step (fun _ => False) wc w2 := by rw [hw2]; exact (Step.refl _ _).alloc _
    have hz2 : w2.heap.size = b + 1 := by rw [hw2, hb]; simp
    have hb2 : w2.heap[b]? = some (.cells #[.slice none 0 0, .int .i64 ((0 : Nat) : Int)] 33 (0, 0)) := by rw [hw2, hb]; exact heap_alloc_new _ _
    have hpen : Pen w2 b (b + 1) (.slice none 0 0) [] := ⟨⟨[], ⟨hb2, World.ownsRow_nil _ _ _ _, BitsIn.nil, by omega⟩, rfl⟩, by omega⟩
    rw [← hw2, ← hb]
    have hbw : wc.heap.size ≤ b := by omega
    have hbw2 : b ≤ wc.heap.size := by omega
    clear hw2 hb
    refine (begin_adds b (b + 1) 1 true (.slice none 0 0) [] w2 hpen (by simp) (by omega)).mono ?_
    rintro r w3 ⟨rfl, v3, hp3, hw3⟩
    rw [List.nil_append] at hp3
    have hst3 : Step (fun _ => False) wc w3 := hst2.trans' hw3.step (fun i hi y => by
      rcases y with y | y
      · omega
      · cases y)
    have hz3 := hw3.step.size
    obtain ⟨i0, hi, hz0, hz1', hz2'⟩ := info_parts Tryz.info5
    have HP3 := hide hp3
    have HST3 := hide hst3
    clear hp3 hw3 hpen hb2 hst2 hst3
    go_wp2_with (first
      | (at_builtin; refine Lib.wpList_append_own_string _ rfl (.tmp 34) (.tmp 35) 31 9 rfl w3.heap.size 5 i0 Tryz.underlying31 Tryz.underlying9 hi hz0 hz1' hz2' _ 0 [] rfl (World.ownsRow_nil _ _ _ _) z rfl ?b1 ?b2 (Nat.le_refl _) ?_))
    case b1 => unfold maxLen; omega
    case b2 => omega
    intro va w4 hown4 hgr4 _
    have hown4' : w4.ownsRow w3.heap.size 5 1 va (bytesOf z).length (u8s (bytesOf z)) := by
      rw [← kp_str, bytesOf_length]
      exact hown4
    have hM4 : KpM wc w4 b (b + 1) v3 va (bytesOf z) (beginBits true 1) := by
      obtain ⟨B, hB⟩ := unhide HP3
      have hblt := lt_of_block hB.row.blk
      refine ⟨Bw.of ⟨B, hB⟩ (hgr4.block b hblt (by simp [Value.ownBlock])) (fun k hk => hgr4.block k (hB.row.own.lt k hk).2 (by simp [Value.ownBlock])), ownsRow_mono hown4' (by omega), fun g hg => ?_, (unhide HST3).grown hgr4 (fun k hk => by simp [Value.ownBlock] at hk), ⟨hbw, by omega, by have := hgr4.size; omega⟩⟩
      have h9 := (hown4'.lt g hg).1
      exact ⟨by omega, fun e => by have := (hB.row.own.lt g e).2; omega⟩
    have HM4 := hide hM4
    clear hM4 hown4 hown4' hgr4 HP3 HST3
    go_wp2_with fail
    refine copies_loop1 z b (b + 1) va v3 wc w4 hzl (unhide HM4) _ _ _ _ _ _ _ _ _ _ _ _ _ _ _ _ _ _ _ _ _ _ _ _ _ _ _ _ _ _ _ _ _ _ _ _ _ _ _ _ _ _ _ _ _ _ _ _ _ _ _ _ _ _ _ _ _ _ _ _ _ _ _ _ _ _ _ _ _ _ _ _ _ _ _ _ _ _ _ _ _ _ _ _ _ _ _ _ _ _ _ _ _ _ _ _ _ _ _ _ _ _ _ _ _ _ _ _ _ _ _ _ _ _ _ _ _ _ _ _ _ _ _ _ _ _ _ _ _ _ _ _ _ _ _ _ _ _ _ _ _ _ _ _ _ _ _ _ _ _ _ _ _ _ _ _ _ _ _ _ _ _ _ _ _ _ _ _ _ _ _ _ _ _ _ _ _ _ _ _ _ _ _ _ _ _ _ ?_
    intro x10 x37 x38 x39 x40 x41 x42 x43 x44 x45 x46 x47 x48 w5 v5 ps5 pb5 hM5 hB5
    obtain ⟨g5, c5, hva⟩ := hM5.form (by rw [bytesOf_length]; exact hzp)
    have hzl5 : (bytesOf z).length ≤ 140737488351232 ∧ 0 < (bytesOf z).length := by rw [bytesOf_length]; exact ⟨hzl, hzp⟩
    have HM5 := hide hM5
    have HB5 := hide hB5
    subst hva
    clear hM5 hB5 HM4
    obtain ⟨Y0, hY0⟩ : ∃ Y0, Y0 = bytesOf z := ⟨_, rfl⟩
    rw [← hY0] at HM5 HB5 hzl5 ⊢
    clear hY0
    go_wp2_with fail
    refine copies_loop2 z a cs cap b (b + 1) g5 c5 Y0 v5 ps5 pb5 wc w5 hcs (unhide HCV) hzl5.2 hzl5.1 (unhide HM5) (unhide HB5) _ _ _ _ _ _ _ _ _ _ _ _ _ _ _ _ _ _ _ _ _ _ _ _ _ _ _ _ _ _ _ _ _ _ _ _ _ _ _ _ _ _ _ _ _ _ _ _ _ _ _ _ _ _ _ _ _ _ _ _ _ _ _ _ _ _ _ _ _ _ _ _ _ _ _ _ _ _ _ _ _ _ _ _ _ _ _ _ _ _ _ _ _ _ _ _ _ _ _ _ _ _ _ _ _ _ _ _ _ _ _ _ _ _ _ _ _ _ _ _ _ _ _ _ _ _ _ _ _ _ _ _ _ _ _ _ _ _ _ _ _ _ _ _ _ _ _ _ _ _ _ _ _ _ _ _ _ _ _ _ _ _ _ _ _ _ _ _ _ _ _ _ _ _ _ _ _ _ _ _ _ _ _ _ _ _ ?_
    intro x11 x12 x13 x14 x15 x16 x17 x49 x50 x51 x52 x53 x54 x55 x56 x57 x58 x59 x60 x61 x62 x63 x64 x65 x66 x67 x68 x69 x70 x71 x72 x73 x74 x75 x76 x77 x78 x79 x80 x81 x82 x83 x84 x85 x86 x87 x88 x89 x90 x91 x92 x93 x94 x95 x96 x97 x98 x99 x100 x101 x102 x103 x104 x105 x106 x107 x108 x109 x110 x111 x112 x113 x114 x115 x116 x117 g6 c6 w6 v6 Y ps pb hM6 hB6 hYp hYl
    rename_i K hK
    refine hK _ _ ?_
    exact copies_tail1 _ fz h1 h2 wc w6 (fun w' hw' => ⟨rfl, (unhide HS1).trans hw'⟩) (unhide HO1) (by omega) g6 c6 b (b + 1) v6 Y ps pb hM6 hB6 hYp hYl _ _ _ _ _ _ _ _ _ _ _ _ _ _ _ _ _ _ _ _ _ _ _ _ _ _ _ _ _ _ _ _ _ _ _ _ _ _ _ _ _ _ _ _ _ _ _ _ _ _ _ _ _ _ _ _ _ _ _ _ _ _ _ _ _ _ _ _ _ _ _ _ _ _ _ _ _ _ _ _ _ _ _ _ _ _ _ _ _ _ _ _ _ _ _ _ _ _ _ _ _ _ _ _ _ _ _ _ _ _ _ _ _ _ _ _ _ _ _ _ _ _ _ _ _ _ _ _ _ _ _ _ _ _ _ _ _ _ _ _ _ _ _ _ _ _ _ _ _ _ _ _ _ _ _ _ _ _ _ _ _ _ _ _ _ _ _ _ _ _ _ _ _ _ _ _ _ _ _ _ _ _ _ _ _ _ _ 
end Go.Proofs.YtbpahojchgpdnaaGreatDoor
