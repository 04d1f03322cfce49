/- Proved here: the second card of Writes: Writes answers true, and the script reads as it did. Its condition: what the call reads is of bulk at most 1048576. -/
import Derived.Test.YtbpahojchgpdnaaGreatDoorCards
import Derived.Test.YtbpahojchgpdnaaGreatDoorTie
import Derived.Test.YtbpahojchgpdnaaGreatDoorLawS
import Derived.Test.YtbpahojchgpdnaaGreatDoorArgs
namespace Go.Proofs.YtbpahojchgpdnaaGreatDoor.writes
open Go.ChangeShapes Go.WideShapes Go.ChangeAt Go.RowKit Go.Bel Go.ChangeMaps
theorem own : ownKnob Tryz.prog.godebug = none := by kernel_rfl
theorem gOrd : Tryz.prog.globalNamed "bellows/bare.firstOrder" = some 0 := by kernel_rfl
theorem gOrdT : (Tryz.prog.globals[0]?).map (·.type) = some 216 := by kernel_rfl
theorem gAgain : Tryz.prog.globalNamed "bellows/bare.again" = some 3 := by kernel_rfl
theorem gAgainT : (Tryz.prog.globals[3]?).map (·.type) = some 258 := by kernel_rfl
theorem gFew : Tryz.prog.globalNamed "bellows/bare.few" = some 2 := by kernel_rfl
theorem gFewT : (Tryz.prog.globals[2]?).map (·.type) = some 258 := by kernel_rfl
theorem gMany : Tryz.prog.globalNamed "bellows/bare.many" = some 1 := by kernel_rfl
theorem gManyT : (Tryz.prog.globals[1]?).map (·.type) = some 258 := by kernel_rfl
theorem order {W : World} (h : laidMetH Tryz.prog Rows.writesUptoRow.laid W) : OrderAt W := by
 obtain ⟨ps, hv, _⟩ := h
 obtain ⟨h1, q1, hv⟩ := ord_head gOrd gOrdT hv
 obtain ⟨h2, q2, hv⟩ := rep_head gAgain gAgainT hv
 obtain ⟨h3, q3, hv⟩ := rep_head gFew gFewT hv
 obtain ⟨h4, q4, hv⟩ := rep_head gMany gManyT hv
 exact ⟨h1, h4, h3, h2⟩
set_option maxRecDepth 100000 in
theorem contract (H : Type) (enc : TypeId × Value → H) (W : World) (base : Nat) (args : Array Value) (ds gs : List (DataW H)) (before : List MemPlace)
  (hval : ∀ (j : Nat) t v, Tryz.f11.params[j]? = some t → args[j]? = some v → Value.okWide Tryz.prog W .any base t v)
  (hW : DataW.Whole enc Tryz.prog Tryz.f11.params.toList Rows.writesSpec.vars false W args.toList ds gs before)
  (hsz : (DataW.weightsEach Tryz.prog (Tryz.f11.params.toList ++ (Rows.OpenSpec.upto Rows.writesSpec).bare.plain.varTypes Tryz.prog) (ds ++ gs)).all (· ≤ reachBytes) = true)
  (hB : Rows.uptoBulkAll (ds ++ gs) ≤ 1048576) (hL : laidMetH Tryz.prog Rows.writesUptoRow.laid W) :
  Calls Tryz.prog 11 args W fun e W' => ∃ v, e = .returned v ∧ Rows.writesSpec.post enc Tryz.prog Tryz.f11 false true false false W args v W' := by
 have hW' := hW
 obtain ⟨p, q, hA0, hV, rfl, hfz, hnd⟩ := hW
 have hA : DataW.TrodAll enc Tryz.prog W 0 (fun _ => true) true Tryz.f11.params.toList args.toList ds p := hA0
 rw [Tryz.params11] at hA hval hsz
 obtain ⟨v0, vs0, d0, ds0, p0, q0, hargs, rfl, rfl, h0, r0⟩ := trodAll_cons hA
 obtain ⟨rfl, rfl, rfl⟩ := trodAll_nil r0
 obtain rfl : args = #[v0] := by cases args; simp_all
 obtain ⟨rfl, rfl⟩ := trodVars_none hV
 clear hA0
 simp only [List.append_nil] at hsz hB
 obtain ⟨ops, hS, _, _, hl2, hin⟩ := script_open2 h0 (hval 0 22 v0 rfl rfl) hsz
 have hO := order hL
 have hsize : 4 ≤ W.heap.size := by
  have e1 := World.block_lt_of_cell? W _ hO.again.1
  have e2 := World.block_lt_of_cell? W _ hO.few.1
  have e3 := World.block_lt_of_cell? W _ hO.many.1
  dsimp only at e1 e2 e3
  omega
 refine (writes_true v0 ops W hS hin (by unfold totOf; rw [List.take_length]; exact bulk_tot hl2 hB) hO hsize (Nat.le_trans (bulk_len hl2 hB) (by decide))).mono fun e W' ⟨he, hst⟩ => ?_
 subst he
 exact ⟨_, rfl, script_post Tryz.params11 (by kernel_rfl) rfl rfl hW' hst⟩
def laidAt (h : Array Obj) (k : Nat) (cs : Array Value) : Array Obj :=
 h.modify k fun
  | .cells _ t frozen => .cells cs t frozen
  | o => o
noncomputable def laidWorld (os : Os) : World :=
 { World.holding Tryz.prog os ⟨#[], #[], []⟩ with heap := laidAt (laidAt (laidAt (laidAt (World.holding Tryz.prog os ⟨#[], #[], []⟩).heap 0
   #[.int .i64 16, .int .i64 17, .int .i64 18, .int .i64 0, .int .i64 8, .int .i64 7, .int .i64 9, .int .i64 6, .int .i64 10, .int .i64 5, .int .i64 11, .int .i64 4, .int .i64 12, .int .i64 3, .int .i64 13, .int .i64 2, .int .i64 14, .int .i64 1, .int .i64 15])
   3 #[.int .i64 16, .int .i64 3, .int .i64 2]) 2 #[.int .i64 17, .int .i64 3, .int .i64 3]) 1 #[.int .i64 18, .int .i64 11, .int .i64 7] }
def none4 : Array Value := #[.slice none 0 0]
theorem laid_met (os : Os) : laidMet Tryz.prog Rows.writesUptoRow.laid ((laidWorld os).forCall (fun _ _ => 0) ⟨#[], none4, []⟩).memory :=
 laidMet_of_run' 8 (by kernel_rfl) (by kernel_rfl)
theorem reads (os : Os) {H : Type} (enc : TypeId × Value → H) : ∃ places, DataW.whole enc Tryz.prog ((laidWorld os).forCall (fun _ _ => 0) ⟨#[], none4, []⟩).memory Tryz.f11.params.toList Rows.writesSpec.vars false none4.toList 8 = some ([.nil], [], places) :=
 ⟨[], by kernel_rfl⟩
set_option maxRecDepth 100000 in
theorem lifted (os : Os) (started : os.Started) (H : Type) (enc : TypeId × Value → H) (F : Stop.Interp) :
  ReturnsInHanded {} Tryz.checked os 11 .any ((Rows.OpenSpec.upto Rows.writesSpec).preRow enc Tryz.prog Tryz.f11 Rows.writesUptoRow.domain false Rows.writesUptoRow.laid) (((Rows.OpenSpec.upto Rows.writesSpec).at F).post enc Tryz.prog Tryz.f11 false true false false) := by
 obtain ⟨places, hx⟩ := reads os enc
 refine returnsInHanded_of_row (C := Tryz.checked) (s := Rows.OpenSpec.upto Rows.writesSpec) own started (by kernel_rfl) Tryz.func11
  (witness_row_at (enc := enc) (C := Tryz.checked) false (laidWorld os) none4 rfl (by kernel_rfl) (by kernel_rfl) (by kernel_rfl)
   (OpenSpec.preRow_of_cond 8 hx (by kernel_rfl) (fun k hk => by cases hk; kernel_rfl) (by kernel_rfl) (laid_met os))) ?_
 intro W base args ds gs before hval hW _ hk hsz hL _ _
 exact contract H enc W base args ds gs before hval hW hsz (of_decide_eq_true (hk _ rfl)) hL
theorem said : Rows.WritesUptoSaid :=
 OpenClaim.holds_of_cond 11 Tryz.f11 rfl rfl rfl rfl rfl rfl rfl ⟨rfl, rfl, rfl, rfl, rfl⟩ rfl rfl rfl rfl rfl (by kernel_rfl) Tryz.func11 (by kernel_rfl)
  (of_decide_eq_true (by kernel_rfl)) (by unfold Func.isWrapper; first | (rw [if_pos (by decide +kernel)]; kernel_rfl) | (rw [if_neg (by decide +kernel)]; exact ⟨rfl, rfl⟩))
  (fun os started H enc _ F => by rw [OpenClaim.pre_eq_preRow]; exact lifted os started H enc F)
theorem plain (f : FuncId) (fn : Func) (hf : Tryz.pinned.checked.prog.funcNamed "bellows/bellowslaw.Writes" = some f) (hfn : Tryz.pinned.checked.prog.funcs[f]? = some fn) :
  true = Tryz.pinned.checked.prog.looks [] ∧ ∀ (j : Nat) t, fn.params[j]? = some t → Tryz.pinned.checked.prog.wantsStandIn t = false := by
 obtain rfl : f = 11 := Option.some.inj ((show Tryz.prog.funcNamed "bellows/bellowslaw.Writes" = some 11 by kernel_rfl).symm.trans hf) |>.symm
 obtain rfl : fn = Tryz.f11 := (Option.some.inj (Tryz.func11.symm.trans hfn)).symm
 refine ⟨by kernel_rfl, fun j t ht => ?_⟩
 rw [Tryz.params11] at ht
 obtain rfl : t = 22 := by simpa using Array.mem_of_getElem? ht
 exact (show Tryz.prog.wantsStandIn 22 = false by kernel_rfl)
theorem card : Rows.WritesUptoCardSaid :=
 Claim7.holds_tied_plain_at .later [] _ _ _ _ said (fun _ h => by cases h) (by kernel_rfl) (fun _ h => by cases h) writesUpto_row_tie rfl ⟨rfl, rfl⟩ (by kernel_rfl) rfl plain (by kernel_rfl)
end Go.Proofs.YtbpahojchgpdnaaGreatDoor.writes
