/- Proved here: the card of Copies: Copies answers true, and what it was handed reads as it did. No condition beyond what each statement of this kind asks of its arguments' sizes. -/
import Derived.Test.YtbpahojchgpdnaaGreatDoorCards
import Derived.Test.YtbpahojchgpdnaaGreatDoorTie
import Derived.Test.YtbpahojchgpdnaaGreatDoorCopied
import Derived.Test.YtbpahojchgpdnaaGreatDoorNames
import Derived.ProofKit
import Derived.OpenShut
import Derived.SizedLaws
import Derived.ChangeMaps5
import Derived.Deep.DeepHandedRow
import Derived.Deep.Slices
import Derived.ReadAgain
import Derived.Lib.LaidTab
namespace Go.Proofs.YtbpahojchgpdnaaGreatDoor.copies
open Go.ChangeShapes Go.WideShapes Go.ChangeAt Go.RowKit Go.Bel Go.ChangeMaps Go.Deep

theorem own : ownKnob Tryz.prog.godebug = none := by kernel_rfl
theorem gOrd : Tryz.prog.globalNamed "bellows/bare.firstOrder" = some 0 := by kernel_rfl
theorem gOrdT : (Tryz.prog.globals[0]?).map (·.type) = some 216 := by kernel_rfl
theorem gAgain : Tryz.prog.globalNamed "bellows/bare.again" = some 3 := by kernel_rfl
theorem gAgainT : (Tryz.prog.globals[3]?).map (·.type) = some 258 := by kernel_rfl
theorem gFew : Tryz.prog.globalNamed "bellows/bare.few" = some 2 := by kernel_rfl
theorem gFewT : (Tryz.prog.globals[2]?).map (·.type) = some 258 := by kernel_rfl
theorem gMany : Tryz.prog.globalNamed "bellows/bare.many" = some 1 := by kernel_rfl
theorem gManyT : (Tryz.prog.globals[1]?).map (·.type) = some 258 := by kernel_rfl

theorem order {W : World} (h : laidMetH Tryz.prog Rows.copiesRow.laid W) : OrderAt W := by
  obtain ⟨ps, hv, _⟩ := h
  obtain ⟨h1, q1, hv⟩ := ord_head gOrd gOrdT hv
  obtain ⟨h2, q2, hv⟩ := rep_head gAgain gAgainT hv
  obtain ⟨h3, q3, hv⟩ := rep_head gFew gFewT hv
  obtain ⟨h4, q4, hv⟩ := rep_head gMany gManyT hv
  exact ⟨h1, h4, h3, h2⟩

theorem cellsCopy : Tryz.prog.cellsOf 38 = 2 := by kernel_rfl
theorem bytesCopy : Tryz.prog.bytesOf 38 = 16 := by kernel_rfl

theorem two2 {α : Type} (l : List α) (h : l.length = 2) : ∃ a b, l = [a, b] := by
  match l, h with
  | [a, b], _ => exact ⟨a, b, rfl⟩

theorem copy_open {H : Type} {enc : TypeId × Value → H} {W : World} {base fuel : Nat} {sp : Nat → Bool} {hd : Bool} {cs : List Value} {x : DataW H × List MemPlace} (h : DataW.trod enc Tryz.prog W base sp hd fuel 38 cs = some x) :
    ∃ p : Int × Int, cs = [.int .i64 p.1, .int .i64 p.2] ∧ (-9223372036854775808 ≤ p.1 ∧ p.1 ≤ 9223372036854775807) ∧ (-9223372036854775808 ≤ p.2 ∧ p.2 ≤ 9223372036854775807) := by
  obtain ⟨xs, n, rfl, hx, hl, hxl, hf⟩ := DataW.trod_struct Tryz.underlying38 h
  rw [cellsCopy] at hl
  have h0 : DataW.trod enc Tryz.prog W base sp hd n 3 ((cs.drop 0).take (Tryz.prog.cellsOf 3)) = xs[0]? := hf 0 _ rfl
  have h1 : DataW.trod enc Tryz.prog W base sp hd n 3 ((cs.drop 1).take (Tryz.prog.cellsOf 3)) = xs[1]? := hf 1 _ rfl
  rw [cellsInt] at h0 h1
  obtain ⟨x0, x1, rfl⟩ := two2 xs hxl
  obtain ⟨n0, e0, y0, w0⟩ := DataW.trod_int Tryz.underlying3 h0
  obtain ⟨n1, e1, y1, w1⟩ := DataW.trod_int Tryz.underlying3 h1
  clear h h0 h1 hf hxl
  obtain ⟨c0, c1, rfl⟩ := two2 cs hl
  simp only [List.drop, List.take, List.cons.injEq, and_true] at e0 e1
  subst e0 e1
  simp only [Lit.wf, Bool.and_eq_true, decide_eq_true_eq] at w0 w1
  exact ⟨(n0, n1), rfl, w0, w1⟩

instance : Inhabited (Int × Int) := ⟨(0, 0)⟩

set_option maxRecDepth 100000 in
theorem copies_open {H : Type} {enc : TypeId × Value → H} {W : World} {v : Value} {d : DataW H} {ps : List MemPlace} (h : DataW.Trod enc Tryz.prog W 0 (fun _ => true) true 28 v d ps) {base : Nat} (hok : Value.okWide Tryz.prog W .any base 28 v) :
    ∃ a cs cap, v = .slice a (cs : List (Int × Int)).length cap ∧ CvIn W a cs ∧ (cs = [] ∨ ∃ elems spare, d = .slice elems spare ∧ elems.length = cs.length) := by
  obtain ⟨a0, len0, cap0, rfl⟩ := okWide_slice Tryz.underlying28 hok
  obtain ⟨fuel, hf⟩ := h
  have hf' : DataW.trod enc Tryz.prog W 0 (fun _ => true) true fuel 28 [.slice a0 len0 cap0] = some (d, ps) := by simpa [Value.cells] using hf
  rcases open_slice Tryz.underlying28 hf' with ⟨h1, _⟩ | ⟨a, len, cap, m, n, D, Pl, h1, hb, hl, hm, hmm, hx, hel⟩
  · simp only [List.cons.injEq, Value.slice.injEq, and_true] at h1
    obtain ⟨rfl, rfl, rfl⟩ := h1
    exact ⟨none, [], 0, rfl, fun i p hp => by simp at hp, .inl rfl⟩
  · simp only [List.cons.injEq, Value.slice.injEq, and_true] at h1
    obtain ⟨rfl, rfl, rfl⟩ := h1
    simp only [if_true] at hmm
    subst hmm
    simp only [Prod.mk.injEq] at hx
    obtain ⟨rfl, rfl⟩ := hx
    obtain ⟨O, hO⟩ := choose_lt (α := Int × Int) (n := m) (p := fun i p => (W.cell? (a.add (i * 2)) = some (.int .i64 p.1) ∧ W.cell? (a.add (i * 2 + 1)) = some (.int .i64 p.2)) ∧ (-9223372036854775808 ≤ p.1 ∧ p.1 ≤ 9223372036854775807) ∧ (-9223372036854775808 ≤ p.2 ∧ p.2 ≤ 9223372036854775807)) (fun i hi => by
      obtain ⟨cs', k1, k2⟩ := hel i hi
      rw [cellsCopy] at k1
      obtain ⟨_, _, hcell⟩ := World.cells?_some k1
      obtain ⟨p, hp, hd⟩ := copy_open k2
      have c0 := hcell 0 (by omega)
      have c1 := hcell 1 (by omega)
      rw [add_add, hp] at c0 c1
      exact ⟨p, ⟨c0, c1⟩, hd⟩)
    have hlen : ((List.range len0).map O).length = len0 := by simp
    refine ⟨some a, (List.range len0).map O, m, by rw [hlen], fun i p hp => ?_, .inr ⟨_, _, rfl, by simp⟩⟩
    have hi : i < len0 := by
      have := (List.getElem?_eq_some_iff.1 hp).1
      omega
    rw [List.getElem?_map, List.getElem?_range hi] at hp
    simp only [Option.map_some, Option.some.injEq] at hp
    subst hp
    obtain ⟨⟨k1, k2⟩, k3, k4⟩ := hO i (by omega)
    obtain ⟨b, off, spot⟩ := a
    have hspot : spot = none := by
      have := World.cell?_spot (hO 0 (by omega)).1.1
      simpa [Addr.add] using this
    subst hspot
    rw [add_plain] at k1 k2
    exact ⟨b, off, rfl, k1, by rw [Nat.add_assoc]; exact k2, k3, k4⟩

theorem laidOutP : laidOutB Tryz.prog = true := by kernel_rfl
theorem mapsRowedP : mapsRowed Tryz.prog = true := by kernel_rfl
theorem slicesFull : ∀ t e, t < Tryz.prog.types.size → Tryz.prog.underlying t = some (.slice e) → 0 < Tryz.prog.cellsOf e := slices_full_of Tryz.prog (by kernel_rfl)
theorem copySliceRow : 28 < Tryz.prog.types.size := of_decide_eq_true (by kernel_rfl)

theorem same_old {W W' : World} (hst : Step (fun _ => False) W W') {p : MemPlace} (hp : p.block < W.heap.size) : W.sameAt W' p := by
  cases p with
  | cell b off => exact World.cell?_of_block (a := ⟨b, off, none⟩) (hst.block b hp (fun x => x))
  | map b => exact hst.block b hp (fun x => x)

theorem frozen_old {W W' : World} (hst : Step (fun _ => False) W W') {b off : Nat} (hb : b < W.heap.size) : W'.frozen? ⟨b, off, none⟩ = W.frozen? ⟨b, off, none⟩ := by
  simp only [World.frozen?, hst.block b hb (fun x => x)]

/- the copies, read again -/
theorem copies_again {H : Type} {enc : TypeId × Value → H} {W W' : World} {v : Value} {d : DataW H} {ps : List MemPlace} (hst : Step (fun _ => False) W W') (h : DataW.Trod enc Tryz.prog W 0 (fun _ => true) true 28 v d ps) (hlt : ∀ p ∈ ps, p.block < W.heap.size) {sp : Nat → Bool} (hsp : ∀ p ∈ ps, sp p.block = true) :
    DataW.Trod enc Tryz.prog W' 0 sp true 28 v d ps := by
  obtain ⟨n, hn⟩ := h
  have h' : DataW.Trod enc Tryz.prog W' 0 (fun _ => true) true 28 v d ps := ⟨n, DataW.trod_carry n _ _ _ hn (fun p hp => same_old hst (hlt p hp))⟩
  exact h'.respare (kids_rows laidOutP mapsRowedP) slicesFull copySliceRow hsp

set_option maxRecDepth 100000 in
theorem contract (H : Type) (enc : TypeId × Value → H) (W : World) (base : Nat) (args : Array Value) (ds gs : List (DataW H)) (before : List MemPlace)
    (hval : ∀ (j : Nat) t v, Tryz.f6.params[j]? = some t → args[j]? = some v → Value.okWide Tryz.prog W .any base t v)
    (hW : DataW.Whole enc Tryz.prog Tryz.f6.params.toList Rows.copiesSpec.vars false W args.toList ds gs before)
    (hsz : (DataW.weightsEach Tryz.prog (Tryz.f6.params.toList ++ (OpenSpec.ofChange Rows.copiesSpec).bare.plain.varTypes Tryz.prog) (ds ++ gs)).all (· ≤ reachBytes) = true)
    (hL : laidMetH Tryz.prog Rows.copiesRow.laid W) :
    Calls Tryz.prog 6 args W fun e W' => ∃ v, e = .returned v ∧ Rows.copiesSpec.post enc Tryz.prog Tryz.f6 false true false false W args v W' := by
  have hlt := hW.lt
  have hW' := hW
  obtain ⟨p, q, hA0, hV, rfl, hfz, hnd⟩ := hW
  have hA : DataW.TrodAll enc Tryz.prog W 0 (fun _ => true) true Tryz.f6.params.toList args.toList ds p := hA0
  rw [Tryz.params6] at hA hval hsz
  obtain ⟨v0, vs0, d0, ds0, p0, q0, hargs, rfl, rfl, h0, r0⟩ := trodAll_cons hA
  obtain ⟨v1, vs1, d1, ds1, p1, q1, hargs1, rfl, rfl, h1, r1⟩ := trodAll_cons r0
  obtain ⟨v2, vs2, d2, ds2, p2, q2, hargs2, rfl, rfl, h2, r2⟩ := trodAll_cons r1
  obtain ⟨rfl, rfl, rfl⟩ := trodAll_nil r2
  obtain rfl : args = #[v0, v1, v2] := by cases args; simp_all
  obtain ⟨rfl, rfl⟩ := trodVars_none hV
  obtain ⟨sa, rfl, rfl, rfl, _⟩ := open_string Tryz.underlying9 (hval 0 9 v0 rfl rfl) h0
  obtain ⟨c, rfl, rfl, rfl, hwf⟩ := open_int Tryz.underlying3 (hval 2 3 v2 rfl rfl) h2
  obtain ⟨a, cs, cap, rfl, hcv, hcd⟩ := copies_open h1 (hval 1 28 v1 rfl rfl)
  clear hA0 hA r0 r1 r2
  have z0 := sized_string hsz (j := 0) (t := 9) rfl rfl
  have hcl : cs.length ≤ 4611686018427387904 := by
    rcases hcd with rfl | ⟨elems, spare, rfl, hel⟩
    · simp
    · have hbytes := sized_slice hsz (j := 1) (t := 28) rfl rfl Tryz.underlying28
      rw [bytesCopy] at hbytes
      have hre : reachBytes = 140737488351232 := rfl
      omega
  have hO := order hL
  have hsize : 4 ≤ W.heap.size := by
    have e1 := World.block_lt_of_cell? W _ hO.again.1
    have e2 := World.block_lt_of_cell? W _ hO.few.1
    have e3 := World.block_lt_of_cell? W _ hO.many.1
    dsimp only at e1 e2 e3
    omega
  have hc : -9223372036854775808 ≤ c ∧ c ≤ 9223372036854775807 := by
    simp only [Lit.wf, Bool.and_eq_true, decide_eq_true_eq] at hwf
    exact hwf
  refine (copies_true sa a cs cap c hc.1 hc.2 W z0 hcl hcv hO hsize).mono fun e W' ⟨he, hst⟩ => ?_
  subst he
  refine ⟨_, rfl, ?_⟩
  have hb : Below W.heap.size W W' := ⟨hst.os, hst.tape, hst.output, hst.size, fun k hk => hst.block k hk (fun x => x)⟩
  have hltp : ∀ p ∈ p1, p.block < W.heap.size := fun p hp => hlt p (by simp [hp])
  have hargs : ∀ sp : Nat → Bool, (∀ p ∈ p1, sp p.block = true) → DataW.TrodAll enc Tryz.prog W' 0 sp true Tryz.f6.params.toList #[.string sa, .slice a cs.length cap, .int .i64 c].toList [.lit (.string sa.data.toList), d1, .lit (.int .i64 c)] ([] ++ (p1 ++ ([] ++ []))) := fun sp hsp =>
    trodAll_cons_mk (shut_string Tryz.underlying9 (by assumption)) (trodAll_cons_mk (copies_again hst h1 hltp hsp) (trodAll_cons_mk (shut_int Tryz.underlying3 hwf) trodAll_mk0))
  have hres : ∀ (b : Nat) (sp : Nat → Bool) (hd : Bool), DataW.TrodAll enc Tryz.prog W' b sp hd Tryz.f6.resultTypes.toList ((Value.bool true).resultList Tryz.f6.resultTypes.size) [.lit (.bool true)] [] := fun _ _ _ => trodAll_cons_mk (shut_bool Tryz.underlying4 _) trodAll_mk0
  have hvars : ∀ sp : Nat → Bool, DataW.TrodVars enc Tryz.prog W' sp Rows.copiesSpec.vars ([] : List (DataW H)) [] := fun _ => rfl
  refine ⟨[.lit (.string sa.data.toList), d1, .lit (.int .i64 c)], [], ([] ++ (p1 ++ ([] ++ []))) ++ [], [], [] ++ (p1 ++ ([] ++ [])), [], hW', hres _ _ _, hargs _ (fun p hp => by simpa using hltp p hp), hvars _, hb.frame _, fun _ => ?_⟩
  refine ⟨ok_one (by kernel_rfl) rfl (okWide_bool_mk Tryz.underlying4 _), _, _, ([] ++ ([] ++ (p1 ++ ([] ++ [])))) ++ [], ⟨[] ++ ([] ++ (p1 ++ ([] ++ []))), [], trodAll_append (hargs _ (fun _ _ => rfl)) (hres _ _ _), hvars _, rfl, ?_, ?_⟩, ?_⟩
  · intro b off hp
    have hp' : MemPlace.cell b off ∈ p1 := by simpa using hp
    have hb' : b < W.heap.size := hltp _ hp'
    rw [frozen_old hst hb']
    exact hfz b off (by simpa using hp')
  · intro ha
    cases ha
  · intro p hp _
    simpa using hp

/- a world for the witness: the settled one, the four variables laid -/
def laidAt (h : Array Obj) (k : Nat) (cs : Array Value) : Array Obj :=
  h.modify k fun
    | .cells _ t frozen => .cells cs t frozen
    | o => o
noncomputable def laidWorld (os : Os) : World :=
  { World.holding Tryz.prog os ⟨#[], #[], []⟩ with heap := laidAt (laidAt (laidAt (laidAt (World.holding Tryz.prog os ⟨#[], #[], []⟩).heap 0
      #[.int .i64 16, .int .i64 17, .int .i64 18, .int .i64 0, .int .i64 8, .int .i64 7, .int .i64 9, .int .i64 6, .int .i64 10, .int .i64 5, .int .i64 11, .int .i64 4, .int .i64 12, .int .i64 3, .int .i64 13, .int .i64 2, .int .i64 14, .int .i64 1, .int .i64 15])
      3 #[.int .i64 16, .int .i64 3, .int .i64 2]) 2 #[.int .i64 17, .int .i64 3, .int .i64 3]) 1 #[.int .i64 18, .int .i64 11, .int .i64 7] }
def none4 : Array Value := #[.string ⟨#[]⟩, .slice none 0 0, .int .i64 0]
theorem laid_met (os : Os) : laidMet Tryz.prog Rows.copiesRow.laid ((laidWorld os).forCall (fun _ _ => 0) ⟨#[], none4, []⟩).memory :=
  laidMet_of_run' 8 (by kernel_rfl) (by kernel_rfl)
theorem reads (os : Os) {H : Type} (enc : TypeId × Value → H) : ∃ places, DataW.whole enc Tryz.prog ((laidWorld os).forCall (fun _ _ => 0) ⟨#[], none4, []⟩).memory Tryz.f6.params.toList Rows.copiesSpec.vars false none4.toList 8 = some ([.lit (.string []), .nil, .lit (.int .i64 0)], [], places) :=
  ⟨[], by kernel_rfl⟩

set_option maxRecDepth 100000 in
theorem lifted (os : Os) (started : os.Started) (H : Type) (enc : TypeId × Value → H) (F : Stop.Interp) :
    ReturnsInHanded {} Tryz.checked os 6 .any ((OpenSpec.ofChange Rows.copiesSpec).preRow enc Tryz.prog Tryz.f6 Rows.copiesRow.domain false Rows.copiesRow.laid) (((OpenSpec.ofChange Rows.copiesSpec).at F).post enc Tryz.prog Tryz.f6 false true false false) := by
  obtain ⟨places, hx⟩ := reads os enc
  refine returnsInHanded_of_row (C := Tryz.checked) (s := OpenSpec.ofChange Rows.copiesSpec) own started (by kernel_rfl) Tryz.func6
    (witness_row_at (enc := enc) (C := Tryz.checked) false (laidWorld os) none4 rfl (by kernel_rfl) (by kernel_rfl) (by kernel_rfl)
      (OpenSpec.preRow_of_cond 8 hx (by kernel_rfl) (fun k hk => by cases hk) (by kernel_rfl) (laid_met os))) ?_
  intro W base args ds gs before hval hW _ _ hsz hL _ _
  exact contract H enc W base args ds gs before hval hW hsz hL

theorem said : Rows.CopiesSaid :=
  OpenClaim.holds_of_cond 6 Tryz.f6 rfl rfl rfl rfl rfl rfl rfl ⟨rfl, rfl, rfl, rfl, rfl⟩ rfl rfl rfl rfl rfl (by kernel_rfl) Tryz.func6 (by kernel_rfl)
    (of_decide_eq_true (by kernel_rfl)) (by unfold Func.isWrapper; first | (rw [if_pos (by decide +kernel)]; kernel_rfl) | (rw [if_neg (by decide +kernel)]; exact ⟨rfl, rfl⟩))
    (fun os started H enc _ F => by rw [OpenClaim.pre_eq_preRow]; exact lifted os started H enc F)

theorem plain (f : FuncId) (fn : Func) (hf : Tryz.pinned.checked.prog.funcNamed "bellows/bellowskeep.Copies" = some f) (hfn : Tryz.pinned.checked.prog.funcs[f]? = some fn) :
    true = Tryz.pinned.checked.prog.looks [] ∧ ∀ (j : Nat) t, fn.params[j]? = some t → Tryz.pinned.checked.prog.wantsStandIn t = false := by
  obtain rfl : f = 6 := Option.some.inj ((show Tryz.prog.funcNamed "bellows/bellowskeep.Copies" = some 6 by kernel_rfl).symm.trans hf) |>.symm
  obtain rfl : fn = Tryz.f6 := (Option.some.inj (Tryz.func6.symm.trans hfn)).symm
  refine ⟨by kernel_rfl, fun j t ht => ?_⟩
  rw [Tryz.params6] at ht
  have hm := Array.mem_of_getElem? ht
  simp at hm
  rcases hm with rfl | rfl | rfl
  · exact (show Tryz.prog.wantsStandIn 9 = false by kernel_rfl)
  · exact (show Tryz.prog.wantsStandIn 28 = false by kernel_rfl)
  · exact (show Tryz.prog.wantsStandIn 3 = false by kernel_rfl)

theorem card : Rows.CopiesCardSaid :=
  Claim7.holds_tied_plain_at .later [] _ _ _ _ said (fun _ h => by cases h) (by kernel_rfl) (fun _ h => by cases h) copies_row_tie rfl ⟨rfl, rfl⟩ (by kernel_rfl) rfl plain (by kernel_rfl)
end Go.Proofs.YtbpahojchgpdnaaGreatDoor.copies
