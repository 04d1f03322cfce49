/- Proved here: the card of Round: Round answers true, and what it was handed reads as it did. No condition beyond what each statement of this kind asks of its arguments' sizes. -/
import Derived.Test.YtbpahojchgpdnaaGreatDoorCards
import Derived.Test.YtbpahojchgpdnaaGreatDoorTie
import Derived.Test.YtbpahojchgpdnaaGreatDoorRoundA
import Derived.ProofKit
import Derived.OpenShut
import Derived.SizedLaws
import Derived.ChangeMaps5
import Derived.Deep.DeepHandedRow
import Derived.Deep.Slices
import Derived.ReadAgain
import Derived.Lib.LaidTab
namespace Go.Proofs.YtbpahojchgpdnaaGreatDoor.round
open Go.ChangeShapes Go.WideShapes Go.ChangeAt Go.RowKit Go.Bel Go.ChangeMaps Go.Deep
theorem own : ownKnob Tryz.prog.godebug = none := by kernel_rfl
theorem gOrd : Tryz.prog.globalNamed "bellows/bare.firstOrder" = some 0 := by kernel_rfl
theorem gOrdT : (Tryz.prog.globals[0]?).map (·.type) = some 216 := by kernel_rfl
theorem gAgain : Tryz.prog.globalNamed "bellows/bare.again" = some 3 := by kernel_rfl
theorem gAgainT : (Tryz.prog.globals[3]?).map (·.type) = some 258 := by kernel_rfl
theorem gFew : Tryz.prog.globalNamed "bellows/bare.few" = some 2 := by kernel_rfl
theorem gFewT : (Tryz.prog.globals[2]?).map (·.type) = some 258 := by kernel_rfl
theorem gMany : Tryz.prog.globalNamed "bellows/bare.many" = some 1 := by kernel_rfl
theorem gManyT : (Tryz.prog.globals[1]?).map (·.type) = some 258 := by kernel_rfl
theorem order {W : World} (h : laidMetH Tryz.prog Rows.roundRow.laid W) : OrderAt W := by
 obtain ⟨ps, hv, _⟩ := h
 obtain ⟨h1, q1, hv⟩ := ord_head gOrd gOrdT hv
 obtain ⟨h2, q2, hv⟩ := rep_head gAgain gAgainT hv
 obtain ⟨h3, q3, hv⟩ := rep_head gFew gFewT hv
 obtain ⟨h4, q4, hv⟩ := rep_head gMany gManyT hv
 exact ⟨h1, h4, h3, h2⟩
set_option maxRecDepth 100000 in
theorem contract (H : Type) (enc : TypeId × Value → H) (W : World) (base : Nat) (args : Array Value) (ds gs : List (DataW H)) (before : List MemPlace)
  (hval : ∀ (j : Nat) t v, Tryz.f7.params[j]? = some t → args[j]? = some v → Value.okWide Tryz.prog W .any base t v)
  (hW : DataW.Whole enc Tryz.prog Tryz.f7.params.toList Rows.roundSpec.vars false W args.toList ds gs before)
  (hsz : (DataW.weightsEach Tryz.prog (Tryz.f7.params.toList ++ (OpenSpec.ofChange Rows.roundSpec).bare.plain.varTypes Tryz.prog) (ds ++ gs)).all (· ≤ reachBytes) = true)
  (hL : laidMetH Tryz.prog Rows.roundRow.laid W) :
  Calls Tryz.prog 7 args W fun e W' => ∃ v, e = .returned v ∧ Rows.roundSpec.post enc Tryz.prog Tryz.f7 false true false false W args v W' := by
 have hlt := hW.lt
 have hW' := hW
 obtain ⟨p, q, hA0, hV, rfl, hfz, hnd⟩ := hW
 have hA : DataW.TrodAll enc Tryz.prog W 0 (fun _ => true) true Tryz.f7.params.toList args.toList ds p := hA0
 rw [Tryz.params7] at hA hval hsz
 obtain ⟨v0, vs0, d0, ds0, p0, q0, hargs, rfl, rfl, h0, r0⟩ := trodAll_cons hA
 obtain ⟨v1, vs1, d1, ds1, p1, q1, hargs1, rfl, rfl, h1, r1⟩ := trodAll_cons r0
 obtain ⟨v2, vs2, d2, ds2, p2, q2, hargs2, rfl, rfl, h2, r2⟩ := trodAll_cons r1
 obtain ⟨rfl, rfl, rfl⟩ := trodAll_nil r2
 obtain rfl : args = #[v0, v1, v2] := by cases args; simp_all
 obtain ⟨rfl, rfl⟩ := trodVars_none hV
 obtain ⟨b, rfl, rfl, rfl, hwf1⟩ := open_int Tryz.underlying3 (hval 0 3 v0 rfl rfl) h0
 obtain ⟨c, rfl, rfl, rfl, hwf⟩ := open_int Tryz.underlying3 (hval 1 3 v1 rfl rfl) h1
 obtain ⟨sa, rfl, rfl, rfl, _⟩ := open_string Tryz.underlying9 (hval 2 9 v2 rfl rfl) h2
 clear hA0 hA r0 r1 r2
 have hO := order hL
 have hsize : 4 ≤ W.heap.size := by
  have e1 := World.block_lt_of_cell? W _ hO.again.1
  have e2 := World.block_lt_of_cell? W _ hO.few.1
  have e3 := World.block_lt_of_cell? W _ hO.many.1
  dsimp only at e1 e2 e3
  omega
 have hc : -9223372036854775808 ≤ c ∧ c ≤ 9223372036854775807 := by
  simp only [Lit.wf, Bool.and_eq_true, decide_eq_true_eq] at hwf
  exact hwf
 have hb1 : -9223372036854775808 ≤ b ∧ b ≤ 9223372036854775807 := by
  simp only [Lit.wf, Bool.and_eq_true, decide_eq_true_eq] at hwf1
  exact hwf1
 refine (round_true b c sa W hb1 hc hO hsize).mono fun e W' ⟨he, hst⟩ => ?_
 subst he
 refine ⟨_, rfl, ?_⟩
 have hb : Below W.heap.size W W' := ⟨hst.os, hst.tape, hst.output, hst.size, fun k hk => hst.block k hk (fun x => x)⟩
 have hargs : ∀ sp : Nat → Bool, DataW.TrodAll enc Tryz.prog W' 0 sp true Tryz.f7.params.toList #[.int .i64 b, .int .i64 c, .string sa].toList [.lit (.int .i64 b), .lit (.int .i64 c), .lit (.string sa.data.toList)] ([] ++ ([] ++ ([] ++ []))) := fun sp =>
  trodAll_cons_mk (shut_int Tryz.underlying3 hwf1) (trodAll_cons_mk (shut_int Tryz.underlying3 hwf) (trodAll_cons_mk (shut_string Tryz.underlying9 (by assumption)) trodAll_mk0))
 have hres : ∀ (b : Nat) (sp : Nat → Bool) (hd : Bool), DataW.TrodAll enc Tryz.prog W' b sp hd Tryz.f7.resultTypes.toList ((Value.bool true).resultList Tryz.f7.resultTypes.size) [.lit (.bool true)] [] := fun _ _ _ => trodAll_cons_mk (shut_bool Tryz.underlying4 _) trodAll_mk0
 have hvars : ∀ sp : Nat → Bool, DataW.TrodVars enc Tryz.prog W' sp Rows.roundSpec.vars ([] : List (DataW H)) [] := fun _ => rfl
 refine ⟨[.lit (.int .i64 b), .lit (.int .i64 c), .lit (.string sa.data.toList)], [], ([] ++ ([] ++ ([] ++ []))) ++ [], [], [] ++ ([] ++ ([] ++ [])), [], hW', hres _ _ _, hargs _, hvars _, hb.frame _, fun _ => ?_⟩
 refine ⟨ok_one (by kernel_rfl) rfl (okWide_bool_mk Tryz.underlying4 _), _, _, ([] ++ ([] ++ ([] ++ ([] ++ [])))) ++ [], ⟨[] ++ ([] ++ ([] ++ ([] ++ []))), [], trodAll_append (hargs _) (hres _ _ _), hvars _, rfl, ?_, ?_⟩, ?_⟩
 ·intro b off hp
  simp at hp
 ·intro ha
  cases ha
 ·intro p hp _
  simp at hp
def laidAt (h : Array Obj) (k : Nat) (cs : Array Value) : Array Obj :=
 h.modify k fun
  | .cells _ t frozen => .cells cs t frozen
  | o => o
noncomputable def laidWorld (os : Os) : World :=
 { World.holding Tryz.prog os ⟨#[], #[], []⟩ with heap := laidAt (laidAt (laidAt (laidAt (World.holding Tryz.prog os ⟨#[], #[], []⟩).heap 0
   #[.int .i64 16, .int .i64 17, .int .i64 18, .int .i64 0, .int .i64 8, .int .i64 7, .int .i64 9, .int .i64 6, .int .i64 10, .int .i64 5, .int .i64 11, .int .i64 4, .int .i64 12, .int .i64 3, .int .i64 13, .int .i64 2, .int .i64 14, .int .i64 1, .int .i64 15])
   3 #[.int .i64 16, .int .i64 3, .int .i64 2]) 2 #[.int .i64 17, .int .i64 3, .int .i64 3]) 1 #[.int .i64 18, .int .i64 11, .int .i64 7] }
def none4 : Array Value := #[.int .i64 0, .int .i64 0, .string ⟨#[]⟩]
theorem laid_met (os : Os) : laidMet Tryz.prog Rows.roundRow.laid ((laidWorld os).forCall (fun _ _ => 0) ⟨#[], none4, []⟩).memory :=
 laidMet_of_run' 8 (by kernel_rfl) (by kernel_rfl)
theorem reads (os : Os) {H : Type} (enc : TypeId × Value → H) : ∃ places, DataW.whole enc Tryz.prog ((laidWorld os).forCall (fun _ _ => 0) ⟨#[], none4, []⟩).memory Tryz.f7.params.toList Rows.roundSpec.vars false none4.toList 8 = some ([.lit (.int .i64 0), .lit (.int .i64 0), .lit (.string [])], [], places) :=
 ⟨[], by kernel_rfl⟩
set_option maxRecDepth 100000 in
theorem lifted (os : Os) (started : os.Started) (H : Type) (enc : TypeId × Value → H) (F : Stop.Interp) :
  ReturnsInHanded {} Tryz.checked os 7 .any ((OpenSpec.ofChange Rows.roundSpec).preRow enc Tryz.prog Tryz.f7 Rows.roundRow.domain false Rows.roundRow.laid) (((OpenSpec.ofChange Rows.roundSpec).at F).post enc Tryz.prog Tryz.f7 false true false false) := by
 obtain ⟨places, hx⟩ := reads os enc
 refine returnsInHanded_of_row (C := Tryz.checked) (s := OpenSpec.ofChange Rows.roundSpec) own started (by kernel_rfl) Tryz.func7
  (witness_row_at (enc := enc) (C := Tryz.checked) false (laidWorld os) none4 rfl (by kernel_rfl) (by kernel_rfl) (by kernel_rfl)
   (OpenSpec.preRow_of_cond 8 hx (by kernel_rfl) (fun k hk => by cases hk) (by kernel_rfl) (laid_met os))) ?_
 intro W base args ds gs before hval hW _ _ hsz hL _ _
 exact contract H enc W base args ds gs before hval hW hsz hL
theorem said : Rows.RoundSaid :=
 OpenClaim.holds_of_cond 7 Tryz.f7 rfl rfl rfl rfl rfl rfl rfl ⟨rfl, rfl, rfl, rfl, rfl⟩ rfl rfl rfl rfl rfl (by kernel_rfl) Tryz.func7 (by kernel_rfl)
  (of_decide_eq_true (by kernel_rfl)) (by unfold Func.isWrapper; first | (rw [if_pos (by decide +kernel)]; kernel_rfl) | (rw [if_neg (by decide +kernel)]; exact ⟨rfl, rfl⟩))
  (fun os started H enc _ F => by rw [OpenClaim.pre_eq_preRow]; exact lifted os started H enc F)
theorem plain (f : FuncId) (fn : Func) (hf : Tryz.pinned.checked.prog.funcNamed "bellows/bellowskeep.Round" = some f) (hfn : Tryz.pinned.checked.prog.funcs[f]? = some fn) :
  true = Tryz.pinned.checked.prog.looks [] ∧ ∀ (j : Nat) t, fn.params[j]? = some t → Tryz.pinned.checked.prog.wantsStandIn t = false := by
 obtain rfl : f = 7 := Option.some.inj ((show Tryz.prog.funcNamed "bellows/bellowskeep.Round" = some 7 by kernel_rfl).symm.trans hf) |>.symm
 obtain rfl : fn = Tryz.f7 := (Option.some.inj (Tryz.func7.symm.trans hfn)).symm
 refine ⟨by kernel_rfl, fun j t ht => ?_⟩
 rw [Tryz.params7] at ht
 have hm := Array.mem_of_getElem? ht
 simp at hm
 rcases hm with rfl | rfl
 ·exact (show Tryz.prog.wantsStandIn 3 = false by kernel_rfl)
 ·exact (show Tryz.prog.wantsStandIn 9 = false by kernel_rfl)
theorem card : Rows.RoundCardSaid :=
 Claim7.holds_tied_plain_at .later [] _ _ _ _ said (fun _ h => by cases h) (by kernel_rfl) (fun _ h => by cases h) round_row_tie rfl ⟨rfl, rfl⟩ (by kernel_rfl) rfl plain (by kernel_rfl)
end Go.Proofs.YtbpahojchgpdnaaGreatDoor.round
