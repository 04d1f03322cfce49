/- Proved here: the second card of Pieces: Pieces answers true, and what it was handed reads as it did. Its condition: what the call reads is of bulk at most 1048576. -/
import Derived.ProofKit
import Derived.OpenShut
import Derived.SizedLaws
import Derived.ChangeMaps5
import Derived.Deep.DeepHandedRow
import Derived.Deep.Slices
import Derived.ReadAgain
import Derived.Lib.LaidTab
import Derived.Test.YtbpahojchgpdnaaGreatDoorCards
import Derived.Test.YtbpahojchgpdnaaGreatDoorTie
import Derived.Test.YtbpahojchgpdnaaGreatDoorPiecesA
namespace Go.Proofs.YtbpahojchgpdnaaGreatDoor.pieces
open Go.ChangeShapes Go.WideShapes Go.ChangeAt Go.RowKit Go.Bel Go.ChangeMaps Go.Deep
theorem own : ownKnob Tryz.prog.godebug = none := by kernel_rfl
theorem gOrd : Tryz.prog.globalNamed "bellows/bare.firstOrder" = some 0 := by kernel_rfl
theorem gOrdT : (Tryz.prog.globals[0]?).map (·.type) = some 216 := by kernel_rfl
theorem gAgain : Tryz.prog.globalNamed "bellows/bare.again" = some 3 := by kernel_rfl
theorem gAgainT : (Tryz.prog.globals[3]?).map (·.type) = some 258 := by kernel_rfl
theorem gFew : Tryz.prog.globalNamed "bellows/bare.few" = some 2 := by kernel_rfl
theorem gFewT : (Tryz.prog.globals[2]?).map (·.type) = some 258 := by kernel_rfl
theorem gMany : Tryz.prog.globalNamed "bellows/bare.many" = some 1 := by kernel_rfl
theorem gManyT : (Tryz.prog.globals[1]?).map (·.type) = some 258 := by kernel_rfl
theorem order {W : World} (h : laidMetH Tryz.prog Rows.piecesUptoRow.laid W) : OrderAt W := by
 obtain ⟨ps, hv, _⟩ := h
 obtain ⟨h1, q1, hv⟩ := ord_head gOrd gOrdT hv
 obtain ⟨h2, q2, hv⟩ := rep_head gAgain gAgainT hv
 obtain ⟨h3, q3, hv⟩ := rep_head gFew gFewT hv
 obtain ⟨h4, q4, hv⟩ := rep_head gMany gManyT hv
 exact ⟨h1, h4, h3, h2⟩
theorem bulk_mem {H : Type} : ∀ {ds : List (DataW H)} {d : DataW H}, d ∈ ds → Rows.uptoBulk d ≤ Rows.uptoBulkAll ds
 | x :: r, d, hd => by
  rw [Rows.uptoBulkAll]
  rcases List.mem_cons.1 hd with rfl | hd
  ·omega
  ·have := bulk_mem hd
   omega
theorem bulk_str {H : Type} {ds : List (DataW H)} {s : ByteArray} (hB : Rows.uptoBulkAll ds ≤ 1048576) (h : (.lit (.string s.data.toList) : DataW H) ∈ ds) : s.size ≤ 1048576 := by
 have h1 := bulk_mem h
 have h3 : Rows.uptoBulk (.lit (.string s.data.toList) : DataW H) = s.data.toList.length + 1 := by rw [Rows.uptoBulk]
 have h4 : s.data.toList.length = s.size := by rw [Array.length_toList]; rfl
 omega
theorem bulk_pos {H : Type} (d : DataW H) : 1 ≤ Rows.uptoBulk d := by
 cases d with
 | lit l => cases l <;> simp [Rows.uptoBulk]
 | _ => rw [Rows.uptoBulk]; try omega
theorem bulk_all {H : Type} : ∀ ds : List (DataW H), ds.length ≤ Rows.uptoBulkAll ds
 | [] => Nat.zero_le _
 | d :: ds => by
  have h1 := bulk_pos d
  have h2 := bulk_all ds
  rw [Rows.uptoBulkAll, List.length_cons]
  omega
instance : Inhabited Int := ⟨0⟩
set_option maxRecDepth 100000 in
theorem cuts_open {H : Type} {enc : TypeId × Value → H} {W : World} {v : Value} {d : DataW H} {ps : List MemPlace} (h : DataW.Trod enc Tryz.prog W 0 (fun _ => true) true 57 v d ps) {base : Nat} (hok : Value.okWide Tryz.prog W .any base 57 v) :
  ∃ a cs cap, v = .slice a (cs : List Int).length cap ∧ IvIn W a cs ∧ (cs = [] ∨ ∃ elems spare, d = .slice elems spare ∧ elems.length = cs.length) := by
 obtain ⟨a0, len0, cap0, rfl⟩ := okWide_slice Tryz.underlying57 hok
 obtain ⟨fuel, hf⟩ := h
 have hf' : DataW.trod enc Tryz.prog W 0 (fun _ => true) true fuel 57 [.slice a0 len0 cap0] = some (d, ps) := by simpa [Value.cells] using hf
 rcases open_slice Tryz.underlying57 hf' with ⟨h1, _⟩ | ⟨a, len, cap, m, n, D, Pl, h1, hb, hl, hm, hmm, hx, hel⟩
 ·simp only [List.cons.injEq, Value.slice.injEq, and_true] at h1
  obtain ⟨rfl, rfl, rfl⟩ := h1
  exact ⟨none, [], 0, rfl, fun i p hp => by simp at hp, .inl rfl⟩
 ·simp only [List.cons.injEq, Value.slice.injEq, and_true] at h1
  obtain ⟨rfl, rfl, rfl⟩ := h1
  simp only [if_true] at hmm
  subst hmm
  simp only [Prod.mk.injEq] at hx
  obtain ⟨rfl, rfl⟩ := hx
  obtain ⟨O, hO⟩ := choose_lt (α := Int) (n := m) (p := fun i p => W.cell? (a.add i) = some (.int .i64 p) ∧ -9223372036854775808 ≤ p ∧ p ≤ 9223372036854775807) (fun i hi => by
   obtain ⟨cs', k1, k2⟩ := hel i hi
   rw [cellsInt] at k1
   obtain ⟨_, _, hcell⟩ := World.cells?_some k1
   obtain ⟨n0, e0, y0, w0⟩ := DataW.trod_int Tryz.underlying3 k2
   have c0 := hcell 0 (by omega)
   rw [add_add, e0, Nat.mul_one, Nat.add_zero] at c0
   simp only [Lit.wf, Bool.and_eq_true, decide_eq_true_eq] at w0
   exact ⟨n0, c0, w0⟩)
  have hlen : ((List.range len0).map O).length = len0 := by simp
  refine ⟨some a, (List.range len0).map O, m, by rw [hlen], fun i p hp => ?_, .inr ⟨_, _, rfl, by simp⟩⟩
  have hi : i < len0 := by
   have := (List.getElem?_eq_some_iff.1 hp).1
   omega
  rw [List.getElem?_map, List.getElem?_range hi] at hp
  simp only [Option.map_some, Option.some.injEq] at hp
  subst hp
  obtain ⟨k1, k3, k4⟩ := hO i (by omega)
  obtain ⟨b, off, spot⟩ := a
  have hspot : spot = none := by
   have := World.cell?_spot (hO 0 (by omega)).1
   simpa [Addr.add] using this
  subst hspot
  rw [add_plain] at k1
  exact ⟨b, off, rfl, k1, k3, k4⟩
theorem laidOutP : laidOutB Tryz.prog = true := by kernel_rfl
theorem mapsRowedP : mapsRowed Tryz.prog = true := by kernel_rfl
theorem slicesFull : ∀ t e, t < Tryz.prog.types.size → Tryz.prog.underlying t = some (.slice e) → 0 < Tryz.prog.cellsOf e := slices_full_of Tryz.prog (by kernel_rfl)
theorem cutsRow : 57 < Tryz.prog.types.size := of_decide_eq_true (by kernel_rfl)
theorem same_old {W W' : World} (hst : Step (fun _ => False) W W') {p : MemPlace} (hp : p.block < W.heap.size) : W.sameAt W' p := by
 cases p with
 | cell b off => exact World.cell?_of_block (a := ⟨b, off, none⟩) (hst.block b hp (fun x => x))
 | map b => exact hst.block b hp (fun x => x)
theorem frozen_old {W W' : World} (hst : Step (fun _ => False) W W') {b off : Nat} (hb : b < W.heap.size) : W'.frozen? ⟨b, off, none⟩ = W.frozen? ⟨b, off, none⟩ := by
 simp only [World.frozen?, hst.block b hb (fun x => x)]
theorem cuts_again {H : Type} {enc : TypeId × Value → H} {W W' : World} {v : Value} {d : DataW H} {ps : List MemPlace} (hst : Step (fun _ => False) W W') (h : DataW.Trod enc Tryz.prog W 0 (fun _ => true) true 57 v d ps) (hlt : ∀ p ∈ ps, p.block < W.heap.size) {sp : Nat → Bool} (hsp : ∀ p ∈ ps, sp p.block = true) :
  DataW.Trod enc Tryz.prog W' 0 sp true 57 v d ps := by
 obtain ⟨n, hn⟩ := h
 have h' : DataW.Trod enc Tryz.prog W' 0 (fun _ => true) true 57 v d ps := ⟨n, DataW.trod_carry n _ _ _ hn (fun p hp => same_old hst (hlt p hp))⟩
 exact h'.respare (kids_rows laidOutP mapsRowedP) slicesFull cutsRow hsp
set_option maxRecDepth 100000 in
theorem contract (H : Type) (enc : TypeId × Value → H) (W : World) (base : Nat) (args : Array Value) (ds gs : List (DataW H)) (before : List MemPlace)
  (hval : ∀ (j : Nat) t v, Tryz.f12.params[j]? = some t → args[j]? = some v → Value.okWide Tryz.prog W .any base t v)
  (hW : DataW.Whole enc Tryz.prog Tryz.f12.params.toList Rows.piecesSpec.vars false W args.toList ds gs before)
  (hB : Rows.uptoBulkAll (ds ++ gs) ≤ 1048576) (hL : laidMetH Tryz.prog Rows.piecesUptoRow.laid W) :
  Calls Tryz.prog 12 args W fun e W' => ∃ v, e = .returned v ∧ Rows.piecesSpec.post enc Tryz.prog Tryz.f12 false true false false W args v W' := by
 have hlt := hW.lt
 have hW' := hW
 obtain ⟨p, q, hA0, hV, rfl, hfz, hnd⟩ := hW
 have hA : DataW.TrodAll enc Tryz.prog W 0 (fun _ => true) true Tryz.f12.params.toList args.toList ds p := hA0
 rw [Tryz.params12] at hA hval
 obtain ⟨v0, vs0, d0, ds0, p0, q0, hargs, rfl, rfl, h0, r0⟩ := trodAll_cons hA
 obtain ⟨v1, vs1, d1, ds1, p1, q1, hargs1, rfl, rfl, h1, r1⟩ := trodAll_cons r0
 obtain ⟨v2, vs2, d2, ds2, p2, q2, hargs2, rfl, rfl, h2, r2⟩ := trodAll_cons r1
 obtain ⟨v3, vs3, d3, ds3, p3, q3, hargs3, rfl, rfl, h3, r3⟩ := trodAll_cons r2
 obtain ⟨rfl, rfl, rfl⟩ := trodAll_nil r3
 obtain rfl : args = #[v0, v1, v2, v3] := by cases args; simp_all
 obtain ⟨rfl, rfl⟩ := trodVars_none hV
 obtain ⟨c, rfl, rfl, rfl, hwf⟩ := open_int Tryz.underlying3 (hval 0 3 v0 rfl rfl) h0
 obtain ⟨sa, rfl, rfl, rfl, _⟩ := open_string Tryz.underlying9 (hval 1 9 v1 rfl rfl) h1
 obtain ⟨ms, rfl, rfl, rfl, hwm⟩ := open_int Tryz.underlying3 (hval 2 3 v2 rfl rfl) h2
 obtain ⟨a, cs, cap, rfl, hcv, hcd⟩ := cuts_open h3 (hval 3 57 v3 rfl rfl)
 clear hA0 hA r0 r1 r2 r3
 have z0 := bulk_str (s := sa) hB (.tail _ (.head _))
 have hcl : cs.length ≤ 1048576 := by
  rcases hcd with rfl | ⟨elems, spare, rfl, hel⟩
  ·simp
  ·have hb1 := bulk_mem (ds := [.lit (.int .i64 c), .lit (.string sa.data.toList), .lit (.int .i64 ms), .slice elems spare] ++ ([] : List (DataW H))) (d := .slice elems spare) (.tail _ (.tail _ (.tail _ (.head _))))
   have hb2 := bulk_all elems
   rw [Rows.uptoBulk] at hb1
   have hb3 : Rows.uptoBulkAll ([.lit (.int .i64 c), .lit (.string sa.data.toList), .lit (.int .i64 ms), .slice elems spare] ++ ([] : List (DataW H))) ≤ 1048576 := hB
   omega
 have hO := order hL
 have hsize : 4 ≤ W.heap.size := by
  have e1 := World.block_lt_of_cell? W _ hO.again.1
  have e2 := World.block_lt_of_cell? W _ hO.few.1
  have e3 := World.block_lt_of_cell? W _ hO.many.1
  dsimp only at e1 e2 e3
  omega
 have hc : -9223372036854775808 ≤ c ∧ c ≤ 9223372036854775807 := by
  simp only [Lit.wf, Bool.and_eq_true, decide_eq_true_eq] at hwf
  exact hwf
 refine (pieces_true c sa ms a cs cap W hc z0 hcl hcv hO hsize).mono fun e W' ⟨he, hst⟩ => ?_
 subst he
 refine ⟨_, rfl, ?_⟩
 have hb : Below W.heap.size W W' := ⟨hst.os, hst.tape, hst.output, hst.size, fun k hk => hst.block k hk (fun x => x)⟩
 have hltp : ∀ p ∈ p3, p.block < W.heap.size := fun p hp => hlt p (by simp [hp])
 have hargs : ∀ sp : Nat → Bool, (∀ p ∈ p3, sp p.block = true) → DataW.TrodAll enc Tryz.prog W' 0 sp true Tryz.f12.params.toList #[.int .i64 c, .string sa, .int .i64 ms, .slice a cs.length cap].toList [.lit (.int .i64 c), .lit (.string sa.data.toList), .lit (.int .i64 ms), d3] ([] ++ ([] ++ ([] ++ (p3 ++ [])))) := fun sp hsp =>
  trodAll_cons_mk (shut_int Tryz.underlying3 hwf) (trodAll_cons_mk (shut_string Tryz.underlying9 (by assumption)) (trodAll_cons_mk (shut_int Tryz.underlying3 hwm) (trodAll_cons_mk (cuts_again hst h3 hltp hsp) trodAll_mk0)))
 have hres : ∀ (b : Nat) (sp : Nat → Bool) (hd : Bool), DataW.TrodAll enc Tryz.prog W' b sp hd Tryz.f12.resultTypes.toList ((Value.bool true).resultList Tryz.f12.resultTypes.size) [.lit (.bool true)] [] := fun _ _ _ => trodAll_cons_mk (shut_bool Tryz.underlying4 _) trodAll_mk0
 have hvars : ∀ sp : Nat → Bool, DataW.TrodVars enc Tryz.prog W' sp Rows.piecesSpec.vars ([] : List (DataW H)) [] := fun _ => rfl
 refine ⟨[.lit (.int .i64 c), .lit (.string sa.data.toList), .lit (.int .i64 ms), d3], [], ([] ++ ([] ++ ([] ++ (p3 ++ [])))) ++ [], [], [] ++ ([] ++ ([] ++ (p3 ++ []))), [], hW', hres _ _ _, hargs _ (fun p hp => by simpa using hltp p hp), hvars _, hb.frame _, fun _ => ?_⟩
 refine ⟨ok_one (by kernel_rfl) rfl (okWide_bool_mk Tryz.underlying4 _), _, _, ([] ++ ([] ++ ([] ++ ([] ++ (p3 ++ []))))) ++ [], ⟨[] ++ ([] ++ ([] ++ ([] ++ (p3 ++ [])))), [], trodAll_append (hargs _ (fun _ _ => rfl)) (hres _ _ _), hvars _, rfl, ?_, ?_⟩, ?_⟩
 ·intro b off hp
  have hp' : MemPlace.cell b off ∈ p3 := by simpa using hp
  have hb' : b < W.heap.size := hltp _ hp'
  rw [frozen_old hst hb']
  exact hfz b off (by simpa using hp')
 ·intro ha
  cases ha
 ·intro p hp _
  simpa using hp
def laidAt (h : Array Obj) (k : Nat) (cs : Array Value) : Array Obj :=
 h.modify k fun
  | .cells _ t frozen => .cells cs t frozen
  | o => o
noncomputable def laidWorld (os : Os) : World :=
 { World.holding Tryz.prog os ⟨#[], #[], []⟩ with heap := laidAt (laidAt (laidAt (laidAt (World.holding Tryz.prog os ⟨#[], #[], []⟩).heap 0
   #[.int .i64 16, .int .i64 17, .int .i64 18, .int .i64 0, .int .i64 8, .int .i64 7, .int .i64 9, .int .i64 6, .int .i64 10, .int .i64 5, .int .i64 11, .int .i64 4, .int .i64 12, .int .i64 3, .int .i64 13, .int .i64 2, .int .i64 14, .int .i64 1, .int .i64 15])
   3 #[.int .i64 16, .int .i64 3, .int .i64 2]) 2 #[.int .i64 17, .int .i64 3, .int .i64 3]) 1 #[.int .i64 18, .int .i64 11, .int .i64 7] }
def none4 : Array Value := #[.int .i64 0, .string ⟨#[]⟩, .int .i64 0, .slice none 0 0]
theorem laid_met (os : Os) : laidMet Tryz.prog Rows.piecesUptoRow.laid ((laidWorld os).forCall (fun _ _ => 0) ⟨#[], none4, []⟩).memory :=
 laidMet_of_run' 8 (by kernel_rfl) (by kernel_rfl)
theorem reads (os : Os) {H : Type} (enc : TypeId × Value → H) : ∃ places, DataW.whole enc Tryz.prog ((laidWorld os).forCall (fun _ _ => 0) ⟨#[], none4, []⟩).memory Tryz.f12.params.toList Rows.piecesSpec.vars false none4.toList 8 = some ([.lit (.int .i64 0), .lit (.string []), .lit (.int .i64 0), .nil], [], places) :=
 ⟨[], by kernel_rfl⟩
set_option maxRecDepth 100000 in
theorem lifted (os : Os) (started : os.Started) (H : Type) (enc : TypeId × Value → H) (F : Stop.Interp) :
  ReturnsInHanded {} Tryz.checked os 12 .any ((Rows.OpenSpec.upto Rows.piecesSpec).preRow enc Tryz.prog Tryz.f12 Rows.piecesUptoRow.domain false Rows.piecesUptoRow.laid) (((Rows.OpenSpec.upto Rows.piecesSpec).at F).post enc Tryz.prog Tryz.f12 false true false false) := by
 obtain ⟨places, hx⟩ := reads os enc
 refine returnsInHanded_of_row (C := Tryz.checked) (s := Rows.OpenSpec.upto Rows.piecesSpec) own started (by kernel_rfl) Tryz.func12
  (witness_row_at (enc := enc) (C := Tryz.checked) false (laidWorld os) none4 rfl (by kernel_rfl) (by kernel_rfl) (by kernel_rfl)
   (OpenSpec.preRow_of_cond 8 hx (by kernel_rfl) (fun k hk => by cases hk; kernel_rfl) (by kernel_rfl) (laid_met os))) ?_
 intro W base args ds gs before hval hW _ hk _ hL _ _
 exact contract H enc W base args ds gs before hval hW (of_decide_eq_true (hk _ rfl)) hL
theorem said : Rows.PiecesUptoSaid :=
 OpenClaim.holds_of_cond 12 Tryz.f12 rfl rfl rfl rfl rfl rfl rfl ⟨rfl, rfl, rfl, rfl, rfl⟩ rfl rfl rfl rfl rfl (by kernel_rfl) Tryz.func12 (by kernel_rfl)
  (of_decide_eq_true (by kernel_rfl)) (by unfold Func.isWrapper; first | (rw [if_pos (by decide +kernel)]; kernel_rfl) | (rw [if_neg (by decide +kernel)]; exact ⟨rfl, rfl⟩))
  (fun os started H enc _ F => by rw [OpenClaim.pre_eq_preRow]; exact lifted os started H enc F)
theorem plain (f : FuncId) (fn : Func) (hf : Tryz.pinned.checked.prog.funcNamed "bellows/bellowskeep.Pieces" = some f) (hfn : Tryz.pinned.checked.prog.funcs[f]? = some fn) :
  true = Tryz.pinned.checked.prog.looks [] ∧ ∀ (j : Nat) t, fn.params[j]? = some t → Tryz.pinned.checked.prog.wantsStandIn t = false := by
 obtain rfl : f = 12 := Option.some.inj ((show Tryz.prog.funcNamed "bellows/bellowskeep.Pieces" = some 12 by kernel_rfl).symm.trans hf) |>.symm
 obtain rfl : fn = Tryz.f12 := (Option.some.inj (Tryz.func12.symm.trans hfn)).symm
 refine ⟨by kernel_rfl, fun j t ht => ?_⟩
 rw [Tryz.params12] at ht
 have hm := Array.mem_of_getElem? ht
 simp at hm
 rcases hm with rfl | rfl | rfl | rfl
 ·exact (show Tryz.prog.wantsStandIn 3 = false by kernel_rfl)
 ·exact (show Tryz.prog.wantsStandIn 9 = false by kernel_rfl)
 ·exact (show Tryz.prog.wantsStandIn 3 = false by kernel_rfl)
 ·exact (show Tryz.prog.wantsStandIn 57 = false by kernel_rfl)
theorem card : Rows.PiecesUptoCardSaid :=
 Claim7.holds_tied_plain_at .later [] _ _ _ _ said (fun _ h => by cases h) (by kernel_rfl) (fun _ h => by cases h) piecesUpto_row_tie rfl ⟨rfl, rfl⟩ (by kernel_rfl) rfl plain (by kernel_rfl)
end Go.Proofs.YtbpahojchgpdnaaGreatDoor.pieces
