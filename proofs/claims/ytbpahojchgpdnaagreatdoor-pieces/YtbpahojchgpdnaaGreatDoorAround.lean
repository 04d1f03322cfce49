/- Proved here: what Around puts around packed bytes. -/
import Derived.Test.YtbpahojchgpdnaaGreatDoorSinks
import Derived.Test.YtbpahojchgpdnaaGreatDoorKept
set_option maxRecDepth 20000
set_option maxHeartbeats 4000000
namespace Go.Proofs.YtbpahojchgpdnaaGreatDoor
open Go.RowKit Go.Bel
theorem pad_nil (n : Nat) (h : n % 8 = 0) : padBits n = [] := by unfold padBits; rw [List.replicate_eq_nil_iff]; omega
theorem byteBits_append (x y : List Nat) : byteBits (x ++ y) = byteBits x ++ byteBits y := by simp [byteBits]
def SkB (w : World) (k base : Nat) (v : Value) (X : List Nat) : Prop := Sk w k base v (byteBits X)
theorem skBytesB (k base : Nat) (v u : Value) (X ys : List Nat) (w : World) (h : SkB w k base v X) (hu : BytesV w u ys) (hy : ∀ y ∈ ys, y < 256) (hl : X.length + ys.length < 8000000000000) (hbase : base ≤ w.heap.size) (hne : ∀ j off n c, u = .slice (some ⟨j, off, none⟩) n c → j ≠ k) :
  Calls Tryz.prog 58 #[.pointer (some ⟨k, 0, none⟩), u] w
   fun e w' => e = .returned (.tuple #[]) ∧ ∃ v', SkB w' k base v' (X ++ ys) ∧ Wrt k w v w' v' := by
 refine (skBytes k base v u (byteBits X) ys w h hu hy (by rw [byteBits_length]; omega) hbase hne).mono ?_
 rintro e w1 ⟨rfl, v1, h1, hw1⟩
 rw [pad_nil _ (by rw [byteBits_length]; omega), List.append_nil, ← byteBits_append] at h1
 exact ⟨rfl, v1, h1, hw1⟩
theorem numBits_add (x m n : Nat) : numBits x (m + n) = numBits x m ++ numBits (x / 2 ^ m) n := by
 induction n with
 | zero => simp [numBits]
 | succ n ih =>
  rw [← Nat.add_assoc, numBits_succ, ih, numBits_succ, List.append_assoc, Nat.div_div_eq_div_mul, ← Nat.pow_add]
theorem numBits_mod (x : Nat) : numBits x 8 = numBits (x % 256) 8 := by
 unfold numBits
 refine List.map_congr_left fun i hi => ?_
 rw [List.mem_range] at hi
 have h : x % 256 / 2 ^ i % 2 = x / 2 ^ i % 2 := by
  rw [show (256 : Nat) = 2 ^ i * 2 ^ (8 - i) by rw [← Nat.pow_add, show i + (8 - i) = 8 by omega]]
  rw [Nat.mod_mul_right_div_self]
  obtain ⟨j, hj⟩ : ∃ j, 8 - i = j + 1 := ⟨8 - i - 1, by omega⟩
  rw [hj, Nat.pow_succ, Nat.mod_mul_left_mod]
 rw [h]
def le4 (x : Nat) : List Nat := [x % 256, x / 256 % 256, x / 65536 % 256, x / 16777216 % 256]
theorem numBits_le4 (x : Nat) : numBits x 32 = byteBits (le4 x) := by
 have h := numBits_add x 8 24
 have h2 := numBits_add (x / 2 ^ 8) 8 16
 have h3 := numBits_add (x / 2 ^ 8 / 2 ^ 8) 8 8
 rw [h, h2, h3, numBits_mod x, numBits_mod (x / 2 ^ 8), numBits_mod (x / 2 ^ 8 / 2 ^ 8), numBits_mod (x / 2 ^ 8 / 2 ^ 8 / 2 ^ 8)]
 have e1 : x / 2 ^ 8 = x / 256 := rfl
 have e2 : x / 256 / 2 ^ 8 = x / 65536 := by omega
 have e3 : x / 65536 / 2 ^ 8 = x / 16777216 := by omega
 rw [e1, e2, e3]
 simp [byteBits, le4]
theorem skNumB (k base x : Nat) (v : Value) (X : List Nat) (w : World) (h : SkB w k base v X) (hx : x < 4611686018427387904) (hl : X.length < 8000000000000) (hbase : base ≤ w.heap.size) :
  Calls Tryz.prog 93 #[.pointer (some ⟨k, 0, none⟩), .int .i64 (x : Nat), .int .i64 32] w
   fun e w' => e = .returned (.tuple #[]) ∧ ∃ v', SkB w' k base v' (X ++ le4 x) ∧ Wrt k w v w' v' := by
 refine (skNum k base x 32 v (byteBits X) w h hx (by omega) (by rw [byteBits_length]; omega) hbase).mono ?_
 rintro e w1 ⟨rfl, v1, h1, hw1⟩
 rw [numBits_le4, ← byteBits_append] at h1
 exact ⟨rfl, v1, h1, hw1⟩
theorem byte_ext {a b : Nat} (ha : a < 256) (hb : b < 256) (h : ∀ i, i < 8 → a / 2 ^ i % 2 = b / 2 ^ i % 2) : a = b := by
 have h0 := h 0 (by omega); have h1 := h 1 (by omega); have h2 := h 2 (by omega); have h3 := h 3 (by omega)
 have h4 := h 4 (by omega); have h5 := h 5 (by omega); have h6 := h 6 (by omega); have h7 := h 7 (by omega)
 simp only [Nat.pow_zero, Nat.div_one, Nat.reducePow] at h0 h1 h2 h3 h4 h5 h6 h7
 omega
theorem bits_inj {bs : List Bool} {B B' : List Nat} (h : BitsIn bs B) (h' : BitsIn bs B') (hl : B.length = B'.length) : B = B' := by
 refine List.ext_getElem hl fun i h1 h2 => ?_
 have hb := h.byte i
 have hb' := h'.byte i
 rw [List.getElem?_eq_getElem h1] at hb
 rw [List.getElem?_eq_getElem h2] at hb'
 refine byte_ext hb hb' fun j hj => ?_
 have e1 := h.bit (8 * i + j)
 have e2 := h'.bit (8 * i + j)
 unfold bitAt at e1 e2
 rw [show (8 * i + j) / 8 = i by omega, show (8 * i + j) % 8 = j by omega, List.getElem?_eq_getElem h1] at e1
 rw [show (8 * i + j) / 8 = i by omega, show (8 * i + j) % 8 = j by omega, List.getElem?_eq_getElem h2] at e2
 exact e1.trans e2.symm
theorem SkB.own {w : World} {k base : Nat} {v : Value} {X : List Nat} (h : SkB w k base v X) (hx : ∀ x ∈ X, x < 256) : w.ownsRow base 5 1 v X.length (u8s X) := by
 obtain ⟨B, hB⟩ := h
 have h1 := bits_bytes BitsIn.nil rfl X hx
 rw [List.nil_append, List.nil_append] at h1
 have hl : B.length = X.length := by have := hB.len; rw [byteBits_length] at this; omega
 have hBX := bits_inj hB.bits h1 hl
 rw [← hBX]
 exact hB.own
def be4 (x : Nat) : List Nat := [x / 16777216, x / 65536 % 256, x / 256 % 256, x % 256]
def aroundZ (P ys : List Nat) : List Nat := [120, 1] ++ P ++ be4 (adWith 1 ys)
def aroundG (P ys : List Nat) : List Nat := [31, 139, 8] ++ List.replicate 7 0 ++ P ++ le4 (crcWith 0 ys) ++ le4 ys.length
structure Stays (w : World) (k base : Nat) (u : Value) (ys : List Nat) : Prop where
 bytes : BytesV w u ys
 byte : ∀ y ∈ ys, y < 256
 far : ∀ j off n c, u = .slice (some ⟨j, off, none⟩) n c → j < k
 len : ys.length ≤ 100000000
theorem Stays.go {w w' : World} {k base : Nat} {v v' u : Value} {ys : List Nat} {bs : List Bool} (h : Stays w k base u ys) (hs : Sk w k base v bs) (hkb : k < base) (hw : Wrt k w v w' v') : Stays w' k base u ys := by
 refine ⟨?_, h.byte, h.far, h.len⟩
 rcases h.bytes with hb | ⟨j, off, cap, hu, hli⟩
 ·exact .inl hb
 ·refine .inr ⟨j, off, cap, hu, fun i hi => hw.step.cell (p := ⟨j, off + i, none⟩) (hli i hi) (fun y => ?_)⟩
  have hj := h.far j off _ _ hu
  rcases y with y | y
  ·have y : j = k := y; omega
  ·obtain ⟨B, hB⟩ := hs
   have := (hB.own.lt j y).1
   omega
theorem Sk.step0 {w w' : World} {k base : Nat} {v : Value} {bs : List Bool} (h : Sk w k base v bs) (hs : Step (fun _ => False) w w') : Sk w' k base v bs := by
 obtain ⟨B, h⟩ := h
 exact ⟨B, hs.at_ h.blk (fun y => y), ownsRow_of_block h.own (fun j hj => hs.block j (h.own.lt j hj).2 (fun y => y)), h.bits, h.len, h.apart⟩
theorem wrt0 {k : Nat} {w w' : World} (v : Value) (h : Step (fun _ => False) w w') : Wrt k w v w' v := ⟨h.mono (fun _ y => y.elim), fun _ hj => .inl hj⟩
end Go.Proofs.YtbpahojchgpdnaaGreatDoor
namespace Go.Proofs.YtbpahojchgpdnaaGreatDoor
open Go.RowKit Go.Bel
theorem new_bytes (w : World) (A : Array Value) (ys : List Nat) (hc : ∀ i, i < ys.length → A[i]? = some (.int .u8 (ys[i]?.getD 0 : Nat))) (c : Nat) : BytesV (w.alloc (.cells A 5)) (.slice (some ⟨w.heap.size, 0, none⟩) ys.length c) ys := by
 refine .inr ⟨w.heap.size, 0, c, rfl, fun i hi => ?_⟩
 have h1 := hc i hi
 rw [Nat.zero_add]
 exact blk_cell (heap_alloc_new w _) i _ h1
structure ArS (w0 w : World) (k base : Nat) (v0 v : Value) (X : List Nat) (up : Value) (P : List Nat) (ub : Value) (ys : List Nat) : Prop where
 sk : SkB w k base v X
 wrt : Wrt k w0 v0 w v
 p : Stays w k base up P
 b : Stays w k base ub ys
 kb : k < base
 le : base ≤ w.heap.size
 few : X.length ≤ 200000000
theorem ArS.more {w0 w w1 : World} {k base : Nat} {v0 v v1 : Value} {X X' : List Nat} {up : Value} {P : List Nat} {ub : Value} {ys : List Nat} (h : ArS w0 w k base v0 v X up P ub ys) (h1 : SkB w1 k base v1 X') (hw : Wrt k w v w1 v1) (hX : X'.length ≤ 200000000) : ArS w0 w1 k base v0 v1 X' up P ub ys :=
 ⟨h1, h.wrt.trans hw, h.p.go h.sk h.kb hw, h.b.go h.sk h.kb hw, h.kb, Nat.le_trans h.le hw.step.size, hX⟩
theorem ArS.lit {w0 w : World} {k base : Nat} {v0 v : Value} {X : List Nat} {up : Value} {P : List Nat} {ub : Value} {ys : List Nat} (h : ArS w0 w k base v0 v X up P ub ys) (A : Array Value) (L : List Nat) (c : Nat) (hL : ∀ y ∈ L, y < 256) (hn : L.length ≤ 100) (hX : X.length ≤ 199999000) (hc : ∀ i, i < L.length → A[i]? = some (.int .u8 (L[i]?.getD 0 : Nat))) :
  Calls Tryz.prog 58 #[.pointer (some ⟨k, 0, none⟩), .slice (some ⟨w.heap.size, 0, none⟩) L.length c] (w.alloc (.cells A 5))
   fun e w' => e = .returned (.tuple #[]) ∧ ∃ v', ArS w0 w' k base v0 v' (X ++ L) up P ub ys := by
 have hal : Step (fun _ => False) w (w.alloc (.cells A 5)) := (Step.refl _ _).alloc _
 have hkl : k < w.heap.size := Sk.lt h.sk
 have hf := h.few
 refine (skBytesB k base v _ X L _ (Sk.step0 h.sk hal) (new_bytes w A L hc c) hL (by omega) (Nat.le_trans h.le hal.size) (fun j off n c' hu => by
  simp only [Value.slice.injEq, Option.some.injEq, Addr.mk.injEq, and_true] at hu
  rw [← hu.1.1]
  omega)).mono ?_
 rintro e w1 ⟨rfl, v1, h1, hw1⟩
 exact ⟨rfl, v1, h.more h1 ((wrt0 v hal).trans hw1) (by rw [List.length_append]; omega)⟩
theorem ArS.packed {w0 w : World} {k base : Nat} {v0 v : Value} {X : List Nat} {up : Value} {P : List Nat} {ub : Value} {ys : List Nat} (h : ArS w0 w k base v0 v X up P ub ys) (hX : X.length ≤ 1000) :
  Calls Tryz.prog 58 #[.pointer (some ⟨k, 0, none⟩), up] w
   fun e w' => e = .returned (.tuple #[]) ∧ ∃ v', ArS w0 w' k base v0 v' (X ++ P) up P ub ys := by
 have hpl := h.p.len
 refine (skBytesB k base v up X P w h.sk h.p.bytes h.p.byte (by omega) h.le (fun j off n c hu => by have := h.p.far j off n c hu; omega)).mono ?_
 rintro e w1 ⟨rfl, v1, h1, hw1⟩
 exact ⟨rfl, v1, h.more h1 hw1 (by rw [List.length_append]; omega)⟩
theorem ArS.num {w0 w : World} {k base : Nat} {v0 v : Value} {X : List Nat} {up : Value} {P : List Nat} {ub : Value} {ys : List Nat} (h : ArS w0 w k base v0 v X up P ub ys) (x : Nat) (hx : x < 4611686018427387904) (hX : X.length ≤ 199999000) :
  Calls Tryz.prog 93 #[.pointer (some ⟨k, 0, none⟩), .int .i64 (x : Nat), .int .i64 32] w
   fun e w' => e = .returned (.tuple #[]) ∧ ∃ v', ArS w0 w' k base v0 v' (X ++ le4 x) up P ub ys := by
 refine (skNumB k base x v X w h.sk hx (by omega) h.le).mono ?_
 rintro e w1 ⟨rfl, v1, h1, hw1⟩
 exact ⟨rfl, v1, h.more h1 hw1 (by rw [List.length_append]; simp [le4]; omega)⟩
theorem slice_of {w : World} {k base : Nat} {u : Value} {ys : List Nat} (h : Stays w k base u ys) : ∃ a c, u = .slice a ys.length c := by
 rcases h.bytes with ⟨a, c, rfl, rfl⟩ | ⟨j, off, cap, rfl, _⟩
 ·exact ⟨a, c, rfl⟩
 ·exact ⟨_, _, rfl⟩
theorem aroundZlib_ok (k base : Nat) (v up ub : Value) (P ys : List Nat) (w : World) (h : ArS w w k base v v [] up P ub ys) :
  Calls Tryz.prog 56 #[.pointer (some ⟨k, 0, none⟩), up, ub] w
   fun e w' => e = .returned (.tuple #[]) ∧ ∃ v', ArS w w' k base v v' (aroundZ P ys) up P ub ys := by
 have H1 := hide (h.lit #[.int .u8 120, .int .u8 1] [120, 1] 2 (by intro y hy; simp at hy; omega) (by simp) (by simp) (fun i hi => by
  match i, hi with
  | 0, _ => rfl
  | 1, _ => rfl))
 have hbl := h.b.len
 have hpl := h.p.len
 obtain ⟨pa, pc, hps⟩ := slice_of h.p
 obtain ⟨ba, bc, hbs⟩ := slice_of h.b
 have HPS := hide hps
 have HBS := hide hbs
 clear h
 obtain ⟨pn, hpn⟩ : ∃ n, n = P.length := ⟨_, rfl⟩
 obtain ⟨bn, hbn⟩ : ∃ n, n = ys.length := ⟨_, rfl⟩
 rw [← hpn] at hps hpl
 rw [← hbn] at hbs hbl
 have HPN := hide hpn
 have HBN := hide hbn
 clear hpn hbn
 rw [hps, hbs]
 go_enter Tryz.func56, Tryz.ntmps56
 go_wp2_with fail
 refine (unhide H1).mono ?_
 rintro r w1 ⟨rfl, v1, h1⟩
 have H2 := hide (h1.packed (by simp))
 rw [hps] at H2
 clear H1 h1
 go_wp2_with fail
 refine (unhide H2).mono ?_
 rintro r w2 ⟨rfl, v2, h2⟩
 have HS := hide (sumWith_any 1 ub ys w2 (by decide) h2.b.bytes h2.b.byte (by have := unhide HBN; omega))
 have hal := adWith_lt 1 (by decide) ys
 rw [hbs] at HS
 have H3 := hide h2
 obtain ⟨s, hs⟩ : ∃ s, s = adWith 1 ys := ⟨_, rfl⟩
 rw [← hs] at HS hal
 have HSS := hide hs
 clear H2 h2 hs
 go_wp2_with fail
 refine (unhide HS).mono ?_
 rintro r w3 ⟨rfl, rfl⟩
 have H4 := hide ((unhide H3).lit #[.int .u8 ((s : Int) / 16777216), .int .u8 ((s : Int) / 65536 % 256), .int .u8 ((s : Int) / 256 % 256), .int .u8 ((s : Int) % 256)] (be4 s) 4 (by intro y hy; simp [be4] at hy; omega) (by simp [be4]) (by have := unhide HPN; simp; omega) (fun i hi => by
  match i, hi with
  | 0, _ => simp [be4]
  | 1, _ => simp [be4]
  | 2, _ => simp [be4]
  | 3, _ => simp [be4]))
 clear HS
 go_wp2_with fail
 refine (unhide H4).mono ?_
 rintro r w4 ⟨rfl, v4, h4⟩
 have HF := hide (show ArS w w4 k base v v4 (aroundZ P ys) (.slice pa pn pc) P (.slice ba bn bc) ys from by
  unfold aroundZ
  rw [← unhide HSS]
  rw [hbs, List.nil_append] at h4
  exact h4)
 clear h4 H4
 go_wp2_with fail
 go_end0
 exact ⟨rfl, v4, unhide HF⟩
theorem aroundGzip_ok (k base : Nat) (v up ub : Value) (P ys : List Nat) (w : World) (h : ArS w w k base v v [] up P ub ys) :
  Calls Tryz.prog 57 #[.pointer (some ⟨k, 0, none⟩), up, ub] w
   fun e w' => e = .returned (.tuple #[]) ∧ ∃ v', ArS w w' k base v v' (aroundG P ys) up P ub ys := by
 have H1 := hide (h.lit #[.int .u8 31, .int .u8 139, .int .u8 8] [31, 139, 8] 3 (by intro y hy; simp at hy; omega) (by simp) (by simp) (fun i hi => by
  match i, hi with
  | 0, _ => rfl
  | 1, _ => rfl
  | 2, _ => rfl))
 have hbl := h.b.len
 have hpl := h.p.len
 obtain ⟨pa, pc, hps⟩ := slice_of h.p
 obtain ⟨ba, bc, hbs⟩ := slice_of h.b
 have HPS := hide hps
 have HBS := hide hbs
 clear h
 obtain ⟨pn, hpn⟩ : ∃ n, n = P.length := ⟨_, rfl⟩
 obtain ⟨bn, hbn⟩ : ∃ n, n = ys.length := ⟨_, rfl⟩
 rw [← hpn] at hps hpl
 rw [← hbn] at hbs hbl
 have HPN := hide hpn
 have HBN := hide hbn
 clear hpn hbn
 rw [hps, hbs]
 go_enter Tryz.func57, Tryz.ntmps57
 go_wp2_with fail
 refine (unhide H1).mono ?_
 rintro r w1 ⟨rfl, v1, h1⟩
 have hmk : (Instr.makeSlice 31 (.int .i64 7) (.int .i64 7)).run Tryz.prog w1 = .ok (.slice (some ⟨w1.heap.size, 0, none⟩) 7 7) (w1.alloc (.cells #[.int .u8 0, .int .u8 0, .int .u8 0, .int .u8 0, .int .u8 0, .int .u8 0, .int .u8 0] 5)) := by
  obtain ⟨i0, hi, hz0, hz1, hz2⟩ := info_parts Tryz.info5
  have h9 := run_make (P := Tryz.prog) w1 31 5 i0 (.int .u8 0) Tryz.underlying31 hi hz0 .i64 .i64 7 7 (by omega) (by omega) (by rw [hz2]; decide) (by omega)
  have e : madeCells (Value.int .u8 0).cells (Int.toNat 7 * 1) = #[.int .u8 0, .int .u8 0, .int .u8 0, .int .u8 0, .int .u8 0, .int .u8 0, .int .u8 0] := by kernel_rfl
  rw [hz1, e] at h9
  exact h9
 have H2 := hide (h1.lit #[.int .u8 0, .int .u8 0, .int .u8 0, .int .u8 0, .int .u8 0, .int .u8 0, .int .u8 0] (List.replicate 7 0) 7 (by intro y hy; simp at hy; omega) (by simp) (by simp) (fun i hi => by
  match i, hi with
  | 0, _ => rfl
  | 1, _ => rfl
  | 2, _ => rfl
  | 3, _ => rfl
  | 4, _ => rfl
  | 5, _ => rfl
  | 6, _ => rfl))
 clear H1 h1
 go_wp2_with fail
 refine (unhide H2).mono ?_
 rintro r w2 ⟨rfl, v2, h2⟩
 have H3 := hide (h2.packed (by simp))
 rw [hps] at H3
 clear H2 h2 hmk
 go_wp2_with fail
 refine (unhide H3).mono ?_
 rintro r w3 ⟨rfl, v3, h3⟩
 have HC := hide (checkWith_any 0 ub ys w3 (by decide) h3.b.bytes h3.b.byte (by have := unhide HBN; omega))
 have hcl := crcWith_lt 0 ys
 rw [hbs] at HC
 obtain ⟨c, hc⟩ : ∃ c, c = crcWith 0 ys := ⟨_, rfl⟩
 rw [← hc] at HC hcl
 have HCC := hide hc
 have H4 := hide (h3.num c (by omega) (by have := unhide HPN; simp; omega))
 clear H3 h3 hc
 go_wp2_with fail
 refine (unhide HC).mono ?_
 rintro r w4 ⟨rfl, rfl⟩
 clear HC
 go_wp2_with fail
 refine (unhide H4).mono ?_
 rintro r w5 ⟨rfl, v5, h5⟩
 have H5 := hide (h5.num bn (by omega) (by have := unhide HPN; simp [le4]; omega))
 clear H4 h5
 go_wp2_with fail
 refine (unhide H5).mono ?_
 rintro r w6 ⟨rfl, v6, h6⟩
 have HF := hide (show ArS w w6 k base v v6 (aroundG P ys) (.slice pa pn pc) P (.slice ba bn bc) ys from by
  unfold aroundG
  rw [← unhide HCC, ← unhide HBN]
  rw [hbs, List.nil_append] at h6
  exact h6)
 clear h6 H5
 go_wp2_with fail
 go_end0
 exact ⟨rfl, v6, unhide HF⟩
end Go.Proofs.YtbpahojchgpdnaaGreatDoor
namespace Go.Proofs.YtbpahojchgpdnaaGreatDoor
open Go.RowKit Go.Bel
def aroundK (kind : Nat) (P ys : List Nat) : List Nat := if kind = 1 then aroundZ P ys else if kind = 2 then aroundG P ys else P
structure OldBytes (w : World) (u : Value) (ys : List Nat) : Prop where
 bytes : BytesV w u ys
 byte : ∀ y ∈ ys, y < 256
 old : ∀ j off n c, u = .slice (some ⟨j, off, none⟩) n c → j < w.heap.size
 len : ys.length ≤ 100000000
theorem around_byte (kind : Nat) (P ys : List Nat) (hP : ∀ y ∈ P, y < 256) : ∀ y ∈ aroundK kind P ys, y < 256 := by
 intro y hy
 unfold aroundK at hy
 split at hy
 ·have h1 := adWith_lt 1 (by decide) ys
  simp only [aroundZ, be4, List.mem_append, List.mem_cons, List.not_mem_nil, or_false] at hy
  rcases hy with ((rfl | rfl) | hy) | rfl | rfl | rfl | rfl
  ·decide
  ·decide
  ·exact hP y hy
  ·omega
  ·omega
  ·omega
  ·omega
 ·split at hy
  ·simp only [aroundG, le4, List.mem_append, List.mem_cons, List.mem_replicate, List.not_mem_nil, or_false] at hy
   rcases hy with ((((rfl | rfl | rfl) | ⟨_, rfl⟩) | hy) | rfl | rfl | rfl | rfl) | rfl | rfl | rfl | rfl
   ·decide
   ·decide
   ·decide
   ·decide
   ·exact hP y hy
   all_goals omega
  ·exact hP y hy
theorem around_ok (kind : Nat) (hk : kind ≤ 2) (up ub : Value) (P ys : List Nat) (w : World) (hp : OldBytes w up P) (hb : OldBytes w ub ys) :
  Calls Tryz.prog 39 #[.int .i64 (kind : Nat), up, ub] w fun e w' => ∃ v', e = .returned v' ∧ w'.ownsRow w.heap.size 5 1 v' (aroundK kind P ys).length (u8s (aroundK kind P ys)) ∧ Step (fun _ => False) w w' := by
 obtain ⟨pa, pc, hps⟩ : ∃ a c, up = .slice a P.length c := by
  rcases hp.bytes with ⟨a, c, rfl, rfl⟩ | ⟨j, off, cap, rfl, _⟩
  ·exact ⟨a, c, rfl⟩
  ·exact ⟨_, _, rfl⟩
 obtain ⟨ba, bc, hbs⟩ : ∃ a c, ub = .slice a ys.length c := by
  rcases hb.bytes with ⟨a, c, rfl, rfl⟩ | ⟨j, off, cap, rfl, _⟩
  ·exact ⟨a, c, rfl⟩
  ·exact ⟨_, _, rfl⟩
 obtain ⟨w1, hw1⟩ : ∃ w1, w1 = w.alloc (.cells #[.slice none 0 0, .int .i64 0] 103) := ⟨_, rfl⟩
 obtain ⟨k, hkk⟩ : ∃ k, k = w.heap.size := ⟨_, rfl⟩
 have hs1 : Step (fun _ => False) w w1 := by rw [hw1]; exact (Step.refl _ _).alloc _
 have hz1 : w1.heap.size = k + 1 := by rw [hw1, hkk]; simp
 have hk1 : w1.heap[k]? = some (.cells #[.slice none 0 0, .int .i64 0] 103 (0, 0)) := by rw [hw1, hkk]; exact heap_alloc_new _ _
 have hst : ∀ u zs, OldBytes w u zs → Stays w1 k (k + 1) u zs := fun u zs h => by
  refine ⟨?_, h.byte, fun j off n c hu => by have := h.old j off n c hu; omega, h.len⟩
  rcases h.bytes with hb | ⟨j, off, cap, hv, hli⟩
  ·exact .inl hb
  ·exact .inr ⟨j, off, cap, hv, fun i hi => hs1.cell (p := ⟨j, off + i, none⟩) (hli i hi) (fun y => y)⟩
 have har : ArS w1 w1 k (k + 1) (.slice none 0 0) (.slice none 0 0) [] up P ub ys := ⟨⟨[], hk1, World.ownsRow_nil _ _ _ _, BitsIn.nil, rfl, by omega⟩, Wrt.refl _ _ _, hst _ _ hp, hst _ _ hb, by omega, by omega, by simp⟩
 have HEND := hide (show ∀ (X : List Nat) (w' : World) (v' : Value), X = aroundK kind P ys → ArS w1 w' k (k + 1) (.slice none 0 0) v' X up P ub ys → (∃ a n c, v' = .slice a n c) ∧ Calls Tryz.prog 59 #[.pointer (some ⟨k, 0, none⟩)] w' (fun e w'' => e = .returned v' ∧ w'' = w') ∧ w'.ownsRow w.heap.size 5 1 v' (aroundK kind P ys).length (u8s (aroundK kind P ys)) ∧ Step (fun _ => False) w w' from fun X w' v' hX h => by
  subst hX
  have hown := h.sk.own (around_byte kind P ys hp.byte)
  refine ⟨?_, skOut k (k + 1) v' _ w' h.sk, ownsRow_mono hown (by omega), hs1.trans' h.wrt.step (fun i hi y => ?_)⟩
  ·obtain ⟨_, ⟨hv, _⟩ | ⟨g, cap, _, hv, _⟩⟩ := hown
   ·exact ⟨_, _, _, hv⟩
   ·exact ⟨_, _, _, hv⟩
  ·rcases y with y | y
   ·omega
   ·cases y)
 have HAR := hide har
 have HW1 := hide hw1
 have HKK := hide hkk
 have hcase : kind = 0 ∨ kind = 1 ∨ kind = 2 := by omega
 have H0 := hide (har.packed (by simp))
 have H1 := hide (aroundZlib_ok k (k + 1) (.slice none 0 0) up ub P ys w1 har)
 have H2 := hide (aroundGzip_ok k (k + 1) (.slice none 0 0) up ub P ys w1 har)
 obtain ⟨pn, hpn⟩ : ∃ n, n = P.length := ⟨_, rfl⟩
 obtain ⟨bn, hbn⟩ : ∃ n, n = ys.length := ⟨_, rfl⟩
 rw [← hpn] at hps
 rw [← hbn] at hbs
 subst hps hbs
 clear hp hb hst har hs1 hz1 hk1 hpn hbn
 rcases hcase with rfl | rfl | rfl
 ·go_enter Tryz.func39, Tryz.ntmps39
  go_wp2_with fail
  rw [← hw1, ← hkk]
  clear hw1 hkk
  refine (unhide H0).mono ?_
  rintro r w2 ⟨rfl, v2, h2⟩
  obtain ⟨⟨va, vn, vc, rfl⟩, hO, hF⟩ := unhide HEND _ w2 v2 (by simp [aroundK]) h2
  have HO := hide hO
  have HF := hide hF
  clear h2 hO hF H0 H1 H2
  go_wp2_with fail
  refine (unhide HO).mono ?_
  rintro r w3 ⟨rfl, rfl⟩
  go_wp2_with fail
  go_ret
  exact ⟨_, rfl, unhide HF⟩
 ·go_enter Tryz.func39, Tryz.ntmps39
  go_wp2_with fail
  rw [← hw1, ← hkk]
  clear hw1 hkk
  refine (unhide H1).mono ?_
  rintro r w2 ⟨rfl, v2, h2⟩
  obtain ⟨⟨va, vn, vc, rfl⟩, hO, hF⟩ := unhide HEND _ w2 v2 (by simp [aroundK]) h2
  have HO := hide hO
  have HF := hide hF
  clear h2 hO hF H0 H1 H2
  go_wp2_with fail
  refine (unhide HO).mono ?_
  rintro r w3 ⟨rfl, rfl⟩
  go_wp2_with fail
  go_ret
  exact ⟨_, rfl, unhide HF⟩
 ·go_enter Tryz.func39, Tryz.ntmps39
  go_wp2_with fail
  rw [← hw1, ← hkk]
  clear hw1 hkk
  refine (unhide H2).mono ?_
  rintro r w2 ⟨rfl, v2, h2⟩
  obtain ⟨⟨va, vn, vc, rfl⟩, hO, hF⟩ := unhide HEND _ w2 v2 (by simp [aroundK]) h2
  have HO := hide hO
  have HF := hide hF
  clear h2 hO hF H0 H1 H2
  go_wp2_with fail
  refine (unhide HO).mono ?_
  rintro r w3 ⟨rfl, rfl⟩
  go_wp2_with fail
  go_ret
  exact ⟨_, rfl, unhide HF⟩
end Go.Proofs.YtbpahojchgpdnaaGreatDoor
namespace Go.Proofs.YtbpahojchgpdnaaGreatDoor
open Go.RowKit Go.Bel
theorem own_slice {w : World} {base n : Nat} {v : Value} {xs : List Value} (h : w.ownsRow base 5 1 v n xs) : ∃ a c, v = .slice a n c := by
 obtain ⟨_, ⟨hv, hn⟩ | ⟨g, cap, _, hv, _⟩⟩ := h
 ·exact ⟨none, 0, by rw [hv, hn]⟩
 ·exact ⟨_, _, hv⟩
theorem packed_old {w w' : World} {v : Value} {bits : List Bool} (h : Packed w w' v bits) (hb : bits.length ≤ 800000000) : ∃ P, BitsIn bits P ∧ P.length = (bits.length + 7) / 8 ∧ OldBytes w' v P ∧ Step (fun _ => False) w w' := by
 obtain ⟨B, h1, h2, h3, h4⟩ := h
 have hb2 : ∀ y ∈ B, y < 256 := fun y hy => by
  obtain ⟨i, hi, rfl⟩ := List.getElem_of_mem hy
  have := h2.byte i
  rw [List.getElem?_eq_getElem hi] at this
  exact this
 refine ⟨B, h2, h3, ⟨?_, hb2, fun j off n c hu => ?_, by omega⟩, h4⟩
 ·have h9 := h1
  obtain ⟨_, ⟨hv, hn⟩ | ⟨g, cap, _, hv, _⟩⟩ := h1
  ·exact .inl ⟨none, 0, hv, List.eq_nil_of_length_eq_zero hn⟩
  ·rw [hv] at h9
   refine .inr ⟨g, 0, cap, hv, fun i hi => ?_⟩
   rw [Nat.zero_add, h9.cellAt i (by omega), u8s_get _ _ hi]
 ·refine (h1.lt j ?_).2
  rw [hu]
  obtain ⟨_, ⟨hv, hn⟩ | ⟨g, cap, _, hv, _⟩⟩ := h1
  ·rw [hv] at hu; cases hu
  ·rw [hv] at hu
   simp only [Value.slice.injEq, Option.some.injEq, Addr.mk.injEq, and_true] at hu
   obtain ⟨⟨rfl, rfl⟩, rfl, rfl⟩ := hu
   rfl
end Go.Proofs.YtbpahojchgpdnaaGreatDoor
