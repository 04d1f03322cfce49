/- Proved here: what a script is, as an argument: its steps in memory, how long they are; what is to be shown of a law over a script. -/
import Derived.ProofKit
import Derived.OpenShut
import Derived.SizedLaws
import Derived.ChangeMaps5
import Derived.Deep.DeepHandedRow
import Derived.Deep.Slices
import Derived.ReadAgain
import Derived.Lib.LaidTab
import Derived.Test.YtbpahojchgpdnaaGreatDoorScript
import Derived.Test.YtbpahojchgpdnaaGreatDoorNames
namespace Go.Proofs.YtbpahojchgpdnaaGreatDoor
open Go.ChangeShapes Go.WideShapes Go.ChangeAt Go.RowKit Go.Bel Go.ChangeMaps Go.Deep
instance : Inhabited OpS := ⟨⟨0, 0, 0, 0, ⟨#[]⟩, 0⟩⟩
theorem cellsOp : Tryz.prog.cellsOf 25 = 6 := by kernel_rfl
theorem cellsStr : Tryz.prog.cellsOf 9 = 1 := by kernel_rfl
theorem bytesOp : Tryz.prog.bytesOf 25 = 56 := by kernel_rfl
theorem six6 {α : Type} (l : List α) (h : l.length = 6) : ∃ a b c d e f, l = [a, b, c, d, e, f] := by
 match l, h with
 | [a, b, c, d, e, f], _ => exact ⟨a, b, c, d, e, f, rfl⟩
def opData {H : Type} (o : OpS) : DataW H := .agg [.lit (.int .i64 o.kind), .lit (.int .i64 o.nn), .lit (.int .i64 o.wrap), .lit (.int .i64 o.way), .lit (.string o.s.data.toList), .lit (.int .i64 o.most)]
theorem op_open {H : Type} {enc : TypeId × Value → H} {W : World} {base fuel : Nat} {sp : Nat → Bool} {hd : Bool} {cs : List Value} {x : DataW H × List MemPlace} (h : DataW.trod enc Tryz.prog W base sp hd fuel 25 cs = some x) :
  ∃ o : OpS, cs = [.int .i64 o.kind, .int .i64 o.nn, .int .i64 o.wrap, .int .i64 o.way, .string o.s, .int .i64 o.most] ∧ x.1 = opData o := by
 obtain ⟨xs, n, rfl, hx, hl, hxl, hf⟩ := DataW.trod_struct Tryz.underlying25 h
 rw [cellsOp] at hl
 have h0 : DataW.trod enc Tryz.prog W base sp hd n 3 ((cs.drop 0).take (Tryz.prog.cellsOf 3)) = xs[0]? := hf 0 _ rfl
 have h1 : DataW.trod enc Tryz.prog W base sp hd n 3 ((cs.drop 1).take (Tryz.prog.cellsOf 3)) = xs[1]? := hf 1 _ rfl
 have h2 : DataW.trod enc Tryz.prog W base sp hd n 3 ((cs.drop 2).take (Tryz.prog.cellsOf 3)) = xs[2]? := hf 2 _ rfl
 have h3 : DataW.trod enc Tryz.prog W base sp hd n 3 ((cs.drop 3).take (Tryz.prog.cellsOf 3)) = xs[3]? := hf 3 _ rfl
 have h4 : DataW.trod enc Tryz.prog W base sp hd n 9 ((cs.drop 4).take (Tryz.prog.cellsOf 9)) = xs[4]? := hf 4 _ rfl
 have h5 : DataW.trod enc Tryz.prog W base sp hd n 3 ((cs.drop 5).take (Tryz.prog.cellsOf 3)) = xs[5]? := hf 5 _ rfl
 rw [cellsInt] at h0 h1 h2 h3 h5
 rw [cellsStr] at h4
 obtain ⟨x0, x1, x2, x3, x4, x5, rfl⟩ := six6 xs hxl
 obtain ⟨n0, e0, y0, _⟩ := DataW.trod_int Tryz.underlying3 h0
 obtain ⟨n1, e1, y1, _⟩ := DataW.trod_int Tryz.underlying3 h1
 obtain ⟨n2, e2, y2, _⟩ := DataW.trod_int Tryz.underlying3 h2
 obtain ⟨n3, e3, y3, _⟩ := DataW.trod_int Tryz.underlying3 h3
 obtain ⟨s4, e4, y4, _⟩ := DataW.trod_string Tryz.underlying9 h4
 obtain ⟨n5, e5, y5, _⟩ := DataW.trod_int Tryz.underlying3 h5
 clear h h0 h1 h2 h3 h4 h5 hf hxl
 obtain ⟨c0, c1, c2, c3, c4, c5, rfl⟩ := six6 cs hl
 simp only [List.drop, List.take, List.cons.injEq, and_true] at e0 e1 e2 e3 e4 e5
 subst e0 e1 e2 e3 e4 e5 y0 y1 y2 y3 y4 y5
 refine ⟨⟨n0, n1, n2, n3, s4, n5⟩, rfl, ?_⟩
 rw [hx]
 rfl
end Go.Proofs.YtbpahojchgpdnaaGreatDoor
namespace Go.Proofs.YtbpahojchgpdnaaGreatDoor
open Go.ChangeShapes Go.WideShapes Go.ChangeAt Go.RowKit Go.Bel Go.ChangeMaps Go.Deep
theorem op_range {H : Type} {enc : TypeId × Value → H} {W : World} {base fuel : Nat} {sp : Nat → Bool} {hd : Bool} {cs : List Value} {x : DataW H × List MemPlace} (h : DataW.trod enc Tryz.prog W base sp hd fuel 25 cs = some x) {o : OpS} (ho : cs = [.int .i64 o.kind, .int .i64 o.nn, .int .i64 o.wrap, .int .i64 o.way, .string o.s, .int .i64 o.most]) : -9223372036854775808 ≤ o.nn ∧ o.nn ≤ 9223372036854775807 := by
 obtain ⟨xs, n, rfl, hx, hl, hxl, hf⟩ := DataW.trod_struct Tryz.underlying25 h
 have h1 : DataW.trod enc Tryz.prog W base sp hd n 3 ((cs.drop 1).take (Tryz.prog.cellsOf 3)) = xs[1]? := hf 1 _ rfl
 rw [cellsInt] at h1
 obtain ⟨x0, x1, x2, x3, x4, x5, rfl⟩ := six6 xs hxl
 obtain ⟨n1, e1, y1, w1⟩ := DataW.trod_int Tryz.underlying3 h1
 subst ho
 simp only [List.drop, List.take, List.cons.injEq, Value.int.injEq, and_true, true_and] at e1
 simp only [Lit.wf, Bool.and_eq_true, decide_eq_true_eq] at w1
 rw [e1]
 exact w1
set_option maxRecDepth 100000 in
theorem script_open2 {H : Type} {enc : TypeId × Value → H} {W : World} {v : Value} {d : DataW H} {ps : List MemPlace} (h : DataW.Trod enc Tryz.prog W 0 (fun _ => true) true 22 v d ps) {base : Nat} (hok : Value.okWide Tryz.prog W .any base 22 v)
  (hsz : (DataW.weightsEach Tryz.prog [22] [d]).all (· ≤ reachBytes) = true) : ∃ ops, Holds W v ops ∧ (∀ o ∈ ops, ∃ elems spare, d = .slice elems spare ∧ opData o ∈ elems) ∧ ops.length * 56 ≤ 140737488351232 ∧ (ops = [] ∨ ∃ spare, d = .slice (ops.map opData) spare) ∧ ∀ o ∈ ops, -9223372036854775808 ≤ o.nn ∧ o.nn ≤ 9223372036854775807 := by
 obtain ⟨a0, len0, cap0, rfl⟩ := okWide_slice Tryz.underlying22 hok
 obtain ⟨fuel, hf⟩ := h
 have hf' : DataW.trod enc Tryz.prog W 0 (fun _ => true) true fuel 22 [.slice a0 len0 cap0] = some (d, ps) := by simpa [Value.cells] using hf
 rcases open_slice Tryz.underlying22 hf' with ⟨h1, _⟩ | ⟨a, len, cap, m, n, D, Pl, h1, hb, hl, hm, hmm, hx, hel⟩
 ·simp only [List.cons.injEq, Value.slice.injEq, and_true] at h1
  obtain ⟨rfl, rfl, rfl⟩ := h1
  exact ⟨[], .inl ⟨none, 0, rfl, rfl⟩, by simp, by simp, .inl rfl, by simp⟩
 ·simp only [List.cons.injEq, Value.slice.injEq, and_true] at h1
  obtain ⟨rfl, rfl, rfl⟩ := h1
  simp only [if_true] at hmm
  subst hmm
  simp only [Prod.mk.injEq] at hx
  obtain ⟨rfl, rfl⟩ := hx
  have hbytes := sized_slice hsz (j := 0) (t := 22) rfl rfl Tryz.underlying22
  rw [bytesOp, List.length_map, List.length_range] at hbytes
  have hre : reachBytes = 140737488351232 := rfl
  obtain ⟨O, hO⟩ := choose_lt (α := OpS) (n := m) (p := fun i o => (∀ j, j < 6 → W.cell? (a.add (i * 6 + j)) = some (o.cell j)) ∧ D i = opData o ∧ -9223372036854775808 ≤ o.nn ∧ o.nn ≤ 9223372036854775807) (fun i hi => by
   obtain ⟨cs', k1, k2⟩ := hel i hi
   rw [cellsOp] at k1
   obtain ⟨_, _, hcell⟩ := World.cells?_some k1
   obtain ⟨o, ho, hd⟩ := op_open k2
   refine ⟨o, fun j hj => ?_, hd, op_range k2 ho⟩
   have hc := hcell j hj
   rw [add_add] at hc
   rw [hc, ho]
   match j, hj with
   | 0, _ => rfl
   | 1, _ => rfl
   | 2, _ => rfl
   | 3, _ => rfl
   | 4, _ => rfl
   | 5, _ => rfl
   | n + 6, h => omega)
  have get : ∀ i o, ((List.range len0).map O)[i]? = some o → i < len0 ∧ O i = o := fun i o h => by
   by_cases hi : i < len0
   ·rw [List.getElem?_map, List.getElem?_range hi] at h
    exact ⟨hi, by simpa using h⟩
   ·rw [List.getElem?_eq_none (by simp; omega)] at h
    cases h
  have hlen : ((List.range len0).map O).length = len0 := by simp
  refine ⟨(List.range len0).map O, ?_, fun o ho => ?_, ?_, .inr ⟨_, by
   rw [List.map_map]
   congr 1
   exact List.map_congr_left fun i hi => (hO i (by have := List.mem_range.1 hi; omega)).2.1⟩, fun o ho => ?_⟩
  ·by_cases h0 : len0 = 0
   ·subst h0
    exact .inl ⟨some a, m, rfl, rfl⟩
   ·obtain ⟨b, off, spot⟩ := a
    have hspot : spot = none := by simpa [Addr.add] using World.cell?_spot ((hO 0 (by omega)).1 0 (by omega))
    subst hspot
    refine .inr ⟨b, off, m, by rw [hlen], fun i o hi j hj => ?_, fun _ => ?_⟩
    ·obtain ⟨hi', rfl⟩ := get i o hi
     have := (hO i (by omega)).1 j hj
     rw [add_plain] at this
     rw [Nat.add_assoc]
     exact this
    ·exact World.block_lt_of_cell? W ⟨b, off, none⟩ (by have := (hO 0 (by omega)).1 0 (by omega); simpa [Addr.add] using this)
  ·obtain ⟨i, hi, rfl⟩ := List.mem_map.1 ho
   rw [List.mem_range] at hi
   refine ⟨_, _, rfl, ?_⟩
   rw [← (hO i (by omega)).2.1]
   exact List.mem_map.2 ⟨i, List.mem_range.2 hi, rfl⟩
  ·rw [hlen]
   have h5 : (len0 + ((List.range (m - len0)).map fun j => D (len0 + j)).length) * 56 ≤ reachBytes := hbytes
   have := Nat.mul_le_mul_right 56 (Nat.le_add_right len0 ((List.range (m - len0)).map fun j => D (len0 + j)).length)
   omega
  ·obtain ⟨i, hi, rfl⟩ := List.mem_map.1 ho
   rw [List.mem_range] at hi
   exact (hO i (by omega)).2.2
theorem bulk_mem {H : Type} : ∀ {ds : List (DataW H)} {d : DataW H}, d ∈ ds → Rows.uptoBulk d ≤ Rows.uptoBulkAll ds
 | x :: r, d, hd => by
  rw [Rows.uptoBulkAll]
  rcases List.mem_cons.1 hd with rfl | hd
  ·omega
  ·have := bulk_mem hd
   omega
theorem bulk_op {H : Type} (o : OpS) : o.s.size ≤ Rows.uptoBulk (opData (H := H) o) := by
 have h1 : Rows.uptoBulk (opData (H := H) o) = Rows.uptoBulkAll ([.lit (.int .i64 o.kind), .lit (.int .i64 o.nn), .lit (.int .i64 o.wrap), .lit (.int .i64 o.way), .lit (.string o.s.data.toList), .lit (.int .i64 o.most)] : List (DataW H)) + 1 := by
  unfold opData
  rw [Rows.uptoBulk]
 have h2 : Rows.uptoBulk (.lit (.string o.s.data.toList) : DataW H) ≤ Rows.uptoBulkAll ([.lit (.int .i64 o.kind), .lit (.int .i64 o.nn), .lit (.int .i64 o.wrap), .lit (.int .i64 o.way), .lit (.string o.s.data.toList), .lit (.int .i64 o.most)] : List (DataW H)) :=
  bulk_mem (.tail _ (.tail _ (.tail _ (.tail _ (.head _)))))
 have h3 : Rows.uptoBulk (.lit (.string o.s.data.toList) : DataW H) = o.s.data.toList.length + 1 := by rw [Rows.uptoBulk]
 have h4 : o.s.data.toList.length = o.s.size := by rw [Array.length_toList]; rfl
 omega
theorem bulk_all {H : Type} : ∀ ops : List OpS, ops.length ≤ Rows.uptoBulkAll (ops.map (opData (H := H)))
 | [] => Nat.zero_le _
 | o :: ops => by
  have h1 : Rows.uptoBulk (opData (H := H) o) = Rows.uptoBulkAll ([.lit (.int .i64 o.kind), .lit (.int .i64 o.nn), .lit (.int .i64 o.wrap), .lit (.int .i64 o.way), .lit (.string o.s.data.toList), .lit (.int .i64 o.most)] : List (DataW H)) + 1 := by
   unfold opData
   rw [Rows.uptoBulk]
  have h2 := bulk_all (H := H) ops
  rw [List.map_cons, Rows.uptoBulkAll, List.length_cons]
  omega
theorem bulk_len {H : Type} {d : DataW H} {ops : List OpS} (h : ops = [] ∨ ∃ spare, d = .slice (ops.map opData) spare) (hb : Rows.uptoBulkAll [d] ≤ 1048576) : ops.length ≤ 1048576 := by
 rcases h with rfl | ⟨spare, rfl⟩
 ·simp
 ·have h1 := bulk_all (H := H) ops
  rw [Rows.uptoBulkAll, Rows.uptoBulk] at hb
  omega
theorem bulk_sum {H : Type} : ∀ ops : List OpS, (ops.map (·.s.size)).sum ≤ Rows.uptoBulkAll (ops.map (opData (H := H)))
 | [] => Nat.zero_le _
 | o :: ops => by
  have h1 := bulk_op (H := H) o
  have h2 := bulk_sum (H := H) ops
  rw [List.map_cons, List.map_cons, Rows.uptoBulkAll, List.sum_cons]
  omega
theorem bulk_tot {H : Type} {d : DataW H} {ops : List OpS} (h : ops = [] ∨ ∃ spare, d = .slice (ops.map opData) spare) (hb : Rows.uptoBulkAll [d] ≤ 1048576) : (ops.map (·.s.size)).sum ≤ 1048576 := by
 rcases h with rfl | ⟨spare, rfl⟩
 ·simp
 ·have h1 := bulk_sum (H := H) ops
  rw [Rows.uptoBulkAll, Rows.uptoBulk] at hb
  omega
end Go.Proofs.YtbpahojchgpdnaaGreatDoor
namespace Go.Proofs.YtbpahojchgpdnaaGreatDoor
open Go.ChangeShapes Go.WideShapes Go.ChangeAt Go.RowKit Go.Bel Go.ChangeMaps Go.Deep
theorem laidOutP : laidOutB Tryz.prog = true := by kernel_rfl
theorem mapsRowedP : mapsRowed Tryz.prog = true := by kernel_rfl
theorem slicesFull : ∀ t e, t < Tryz.prog.types.size → Tryz.prog.underlying t = some (.slice e) → 0 < Tryz.prog.cellsOf e := slices_full_of Tryz.prog (by kernel_rfl)
theorem opSliceRow : 22 < Tryz.prog.types.size := of_decide_eq_true (by kernel_rfl)
theorem same_old {W W' : World} (hst : Step (fun _ => False) W W') {p : MemPlace} (hp : p.block < W.heap.size) : W.sameAt W' p := by
 cases p with
 | cell b off => exact World.cell?_of_block (a := ⟨b, off, none⟩) (hst.block b hp (fun x => x))
 | map b => exact hst.block b hp (fun x => x)
theorem frozen_old {W W' : World} (hst : Step (fun _ => False) W W') {b off : Nat} (hb : b < W.heap.size) : W'.frozen? ⟨b, off, none⟩ = W.frozen? ⟨b, off, none⟩ := by
 simp only [World.frozen?, hst.block b hb (fun x => x)]
theorem script_again {H : Type} {enc : TypeId × Value → H} {W W' : World} {v : Value} {d : DataW H} {ps : List MemPlace} (hst : Step (fun _ => False) W W') (h : DataW.Trod enc Tryz.prog W 0 (fun _ => true) true 22 v d ps) (hlt : ∀ p ∈ ps, p.block < W.heap.size) {sp : Nat → Bool} (hsp : ∀ p ∈ ps, sp p.block = true) :
  DataW.Trod enc Tryz.prog W' 0 sp true 22 v d ps := by
 obtain ⟨n, hn⟩ := h
 have h' : DataW.Trod enc Tryz.prog W' 0 (fun _ => true) true 22 v d ps := ⟨n, DataW.trod_carry n _ _ _ hn (fun p hp => same_old hst (hlt p hp))⟩
 exact h'.respare (kids_rows laidOutP mapsRowedP) slicesFull opSliceRow hsp
set_option maxRecDepth 100000 in
theorem script_post {H : Type} {enc : TypeId × Value → H} {fn : Func} {s : ChangeSpec} {fresh handsOn again : Bool} {W W' : World} {v : Value} {d : DataW H} {before : List MemPlace} (hp : fn.params = #[22]) (hr : fn.resultTypes = #[4]) (hv : s.vars = [])
  (hfn : s.fn H [d] = { results := [.lit (.bool true)], args := [d] }) (hW : DataW.Whole enc Tryz.prog fn.params.toList s.vars false W #[v].toList [d] [] before) (hst : Step (fun _ => False) W W') :
  s.post enc Tryz.prog fn false fresh handsOn again W #[v] (.bool true) W' := by
 have hlt := hW.lt
 have hW' := hW
 obtain ⟨p, q, hA, hV, rfl, hz, hn⟩ := hW
 rw [hv] at hV
 obtain ⟨_, rfl⟩ := trodVars_none hV
 rw [List.append_nil] at hlt hz hW'
 rw [hp] at hA
 obtain ⟨v0, vs0, d0, ds0, p0, q0, h1, h2, rfl, h3, h4⟩ := trodAll_cons hA
 obtain ⟨rfl, rfl, rfl⟩ := trodAll_nil h4
 simp only [List.cons.injEq, and_true] at h1 h2
 subst h1 h2
 rw [List.append_nil] at hlt hz hW'
 have hb : Below W.heap.size W W' := ⟨hst.os, hst.tape, hst.output, hst.size, fun k hk => hst.block k hk (fun x => x)⟩
 have hargs : ∀ sp : Nat → Bool, (∀ p ∈ p0, sp p.block = true) → DataW.TrodAll enc Tryz.prog W' 0 sp true fn.params.toList #[v].toList (s.fn H ([d] ++ [])).args p0 := fun sp hsp => by
  rw [List.append_nil, hfn, hp]
  have := trodAll_cons_mk (script_again hst h3 hlt hsp) (trodAll_mk0 (enc := enc) (P := Tryz.prog) (w := W') (base := 0) (spare := sp) (held := true))
  simpa using this
 have hres : ∀ (b : Nat) (sp : Nat → Bool) (hd : Bool), DataW.TrodAll enc Tryz.prog W' b sp hd fn.resultTypes.toList ((Value.bool true).resultList fn.resultTypes.size) (s.fn H ([d] ++ [])).results [] := fun b sp hd => by
  rw [List.append_nil, hfn, hr]
  exact trodAll_cons_mk (shut_bool Tryz.underlying4 _) trodAll_mk0
 have hvars : ∀ sp : Nat → Bool, DataW.TrodVars enc Tryz.prog W' sp s.vars (s.fn H ([d] ++ [])).vars [] := fun sp => by
  rw [List.append_nil, hfn, hv]
  rfl
 refine ⟨[d], [], p0, [], p0, [], hW', hres _ _ _, hargs _ (fun p hp => by simpa using hlt p hp), hvars _, hb.frame _, fun _ => ?_⟩
 refine ⟨ok_one hr rfl (okWide_bool_mk Tryz.underlying4 _), _, _, ([] ++ p0) ++ [], ⟨[] ++ p0, [], trodAll_append (hargs _ (fun _ _ => rfl)) (hres _ _ _), hvars _, rfl, ?_, ?_⟩, ?_⟩
 ·intro b off hp
  have hp' : MemPlace.cell b off ∈ p0 := by simpa using hp
  have hb' : b < W.heap.size := hlt _ hp'
  rw [frozen_old hst hb']
  exact hz b off hp'
 ·intro ha
  cases ha
 ·intro p hp _
  simpa using hp
end Go.Proofs.YtbpahojchgpdnaaGreatDoor
