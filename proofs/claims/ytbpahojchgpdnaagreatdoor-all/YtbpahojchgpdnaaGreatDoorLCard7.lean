/- Proved here: the second card of All: All answers true, and the script reads as it did. Its condition: what the call reads is of bulk at most 1048576. -/
import Derived.Test.YtbpahojchgpdnaaGreatDoorCards
import Derived.Test.YtbpahojchgpdnaaGreatDoorTie
import Derived.Test.YtbpahojchgpdnaaGreatDoorLAll
set_option linter.all false
namespace Go.Proofs.YtbpahojchgpdnaaGreatDoor.all
open Go.ChangeShapes Go.WideShapes Go.ChangeAt Go.RowKit Go.dM Go.ChangeMaps
theorem own:ownKnob Tryz.prog.godebug=none:=by kernel_rfl
theorem aD5:Tryz.prog.globalNamed "bellows/bare.firstOrder" =some 0:=by kernel_rfl
theorem az8:(Tryz.prog.globals[0]?).map (·.type)=some 216:=by kernel_rfl
theorem av1:Tryz.prog.globalNamed "bellows/bare.again" =some 3:=by kernel_rfl
theorem ag6:(Tryz.prog.globals[3]?).map (·.type)=some 258:=by kernel_rfl
theorem aE3:Tryz.prog.globalNamed "bellows/bare.few" =some 2:=by kernel_rfl
theorem aB0:(Tryz.prog.globals[2]?).map (·.type)=some 258:=by kernel_rfl
theorem aA0:Tryz.prog.globalNamed "bellows/bare.many" =some 1:=by kernel_rfl
theorem aw9:(Tryz.prog.globals[1]?).map (·.type)=some 258:=by kernel_rfl
theorem order {W:aH}(h:laidMetH Tryz.prog Rows.allUptoRow.laid W):bL W:=by obtain⟨f,a,_⟩:=h;obtain⟨b,g,a⟩:=Zn aD5 az8 a;obtain⟨c,i,a⟩:=UY av1 ag6 a;obtain⟨d,j,a⟩:=UY aE3 aB0 a;obtain⟨e,k,a⟩:=UY aA0 aw9 a;exact⟨b,e,d,c⟩
set_option maxRecDepth 100000 in
theorem contract (H:Type)(enc:TypeId×aK->H)(W:aH)(base:Nat)(args:Array aK)(i l:List (DataW H))(a:List MemPlace)(b:∀(j:Nat) t v,Tryz.f13.params[j]? =some t->args[j]? =some v->Value.okWide Tryz.prog W .any base t v)(y:DataW.Whole enc Tryz.prog Tryz.f13.params.toList Rows.allSpec.vars false W args.toList i l a)(d:(DataW.weightsEach Tryz.prog (Tryz.f13.params.toList++(Rows.OpenSpec.upto Rows.allSpec).bare.plain.varTypes Tryz.prog) (i++l)).all (·<=reachBytes)=true)(m:Rows.uptoBulkAll (i++l)<=1048576)(D:laidMetH Tryz.prog Rows.allUptoRow.laid W):Calls Tryz.prog 13 args W fun e w=>∃v,e= .returned v/\Rows.allSpec.post enc Tryz.prog Tryz.f13 false true false false W args v w:=by
 have n:=y;obtain⟨p,q,f,G,rfl,J,K⟩:=y;have x:DataW.TrodAll enc Tryz.prog W 0 (fun _=>true) true Tryz.f13.params.toList args.toList i p:=f;rw[Tryz.params13]at x b d;obtain⟨v0,L,M,z,p0,N,o,rfl,rfl,C,r0⟩:=trodAll_cons x;obtain⟨rfl,rfl,rfl⟩:=trodAll_nil r0;obtain rfl:args=#[v0]:=by cases args;simp_all
 obtain⟨rfl,rfl⟩:=trodVars_none G;clear f;simp only[bG]at d m;obtain⟨u,F,_,_,g,r⟩:=YT C (b 0 22 v0 rfl rfl) d;have k:=order D;have c:4<=W.heap.size:=by
  have A:=kF W _ k.again.1;have B:=kF W _ k.few.1;have e3:=kF W _ k.many.1;dsimp only at A B e3;omega
 refine(all_true v0 u W F r (by unfold vM;rw[sI];exact a15 g m) k c (bB (aa0 g m) (by decide))).mono fun e w ⟨I,s⟩=> ?_;subst I;exact⟨_,rfl,Ct Tryz.params13 (by kernel_rfl) rfl rfl n s⟩
def ZM (h:Array Obj)(k:Nat)(cs:Array aK):Array Obj:=
 h.modify k fun
  | .cells _ t frozen=> .cells cs t frozen
  |o=>o
noncomputable def KY (os:Os):aH:=
 { World.holding Tryz.prog os ⟨#[],#[],[]⟩with heap:=ZM (ZM (ZM (ZM (World.holding Tryz.prog os ⟨#[],#[],[]⟩).heap 0 #[V 16,V 17,V 18,V 0,V 8,V 7,V 9,V 6,V 10,V 5,V 11,V 4,V 12,V 3,V 13,V 2,V 14,V 1,V 15]) 3 #[V 16,V 3,V 2]) 2 #[V 17,V 3,V 3]) 1 #[V 18,V 11,V 7] }
def Pk:Array aK:=#[.slice none 0 0]
theorem Za (os:Os):laidMet Tryz.prog Rows.allUptoRow.laid ((KY os).forCall (fun _ _=>0) ⟨#[],Pk,[]⟩).memory:=laidMet_of_run' 8 (by kernel_rfl) (by kernel_rfl)
theorem reads (os:Os){H:Type}(enc:TypeId×aK->H):∃a,DataW.whole enc Tryz.prog ((KY os).forCall (fun _ _=>0) ⟨#[],Pk,[]⟩).memory Tryz.f13.params.toList Rows.allSpec.vars false Pk.toList 8=some ([.nil],[],a):=⟨[],by kernel_rfl⟩
set_option maxRecDepth 100000 in
theorem lifted (os:Os)(a:os.Started)(H:Type)(enc:TypeId×aK->H)(F:Stop.Interp):ReturnsInHanded {} Tryz.checked os 13 .any ((Rows.OpenSpec.upto Rows.allSpec).preRow enc Tryz.prog Tryz.f13 Rows.allUptoRow.domain false Rows.allUptoRow.laid) (((Rows.OpenSpec.upto Rows.allSpec).at F).post enc Tryz.prog Tryz.f13 false true false false):=by
 obtain⟨d,l⟩:=reads os enc
 refine returnsInHanded_of_row (C:=Tryz.checked) (s:=Rows.OpenSpec.upto Rows.allSpec) own a (by kernel_rfl) Tryz.func13
  (witness_row_at (enc:=enc) (C:=Tryz.checked) false (KY os) Pk rfl (by kernel_rfl) (by kernel_rfl) (by kernel_rfl)
   (OpenSpec.preRow_of_cond 8 l (by kernel_rfl) (fun k hk=>by cases hk;kernel_rfl) (by kernel_rfl) (Za os))) ?_
 intro W base args f g b c j _ hk e i _ _;exact contract H enc W base args f g b c j e (DW (hk _ rfl)) i
theorem said:Rows.AllUptoSaid:=
 OpenClaim.holds_of_cond 13 Tryz.f13 rfl rfl rfl rfl rfl rfl rfl ⟨rfl,rfl,rfl,rfl,rfl⟩ rfl rfl rfl rfl rfl (by kernel_rfl) Tryz.func13 (by kernel_rfl)
  (DW (by kernel_rfl)) (by unfold Func.isWrapper;first|(rw[aA (by decide +kernel)];kernel_rfl)|(rw[aB (by decide +kernel)];exact⟨rfl,rfl⟩))
  (fun os a H enc _ F=>by rw[OpenClaim.pre_eq_preRow];exact lifted os a H enc F)
theorem plain (f:FuncId)(a:Func)(d:Tryz.pinned.checked.prog.funcNamed "bellows/bellowslaw.All" =some f)(b:Tryz.pinned.checked.prog.funcs[f]? =some a):true=Tryz.pinned.checked.prog.looks []/\∀(j:Nat) t,a.params[j]? =some t->Tryz.pinned.checked.prog.wantsStandIn t=false:=by
 obtain rfl:f=13:=D5 ((show Tryz.prog.funcNamed "bellows/bellowslaw.All" =some 13 by kernel_rfl).symm.trans d) |>.symm;obtain rfl:a=Tryz.f13:=(D5 (Tryz.func13.symm.trans b)).symm;refine⟨by kernel_rfl,fun j t c=> ?_⟩;rw[Tryz.params13]at c;obtain rfl:t=22:=by simpa using Array.mem_of_getElem? c
 exact(show Tryz.prog.wantsStandIn 22=false by kernel_rfl)
theorem card:Rows.AllUptoCardSaid:=Claim7.holds_tied_plain_at .later [] _ _ _ _ said (fun _ h=>by cases h) (by kernel_rfl) (fun _ h=>by cases h) allUpto_row_tie rfl ⟨rfl,rfl⟩ (by kernel_rfl) rfl plain (by kernel_rfl)
end Go.Proofs.YtbpahojchgpdnaaGreatDoor.all
