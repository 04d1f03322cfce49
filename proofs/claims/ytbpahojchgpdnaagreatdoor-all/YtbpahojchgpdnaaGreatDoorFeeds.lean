import Derived.RegionDies
import Derived.Test.YtbpahojchgpdnaaGreatDoorCodesDeal2
set_option maxRecDepth 20000
set_option maxHeartbeats 4000000
set_option linter.all false
namespace Go.Proofs.YtbpahojchgpdnaaGreatDoor
open Go.RowKit Go.dM Go.Maps Go.Proofs.Tryz
abbrev lost:Ending:= .panicked [{ v:=missing,recovered:=false }]
variable {f p:Nat} {w:aH} {B row:aD}
def dL (f g off cap z p n:Nat)(B:aD)(w:aH)(j:w.heap[f]? =some (.cells #[.slice (bE g off B.length) B.length cap,V p,V z] 91 (0,0)))(r:ay5 w g off B)(l:g≠f)(hn:n<=60)(hp:p<=8*B.length)(A:8*B.length<p+n):Calls prog 119 #[E f,V n] w fun e w'=>e=lost/\lV f w w' (8*B.length):=by
 have C:=r.much;go_enter func119,ntmps119;go_wp2;go_loopw [5,8] (fun x i wr=>∃k:Nat,p+k<=8*B.length/\i=V k/\x=V (aG B p k:Nat)/\lV f w wr (p+k)) (fun _ i _=>n-(intOf i).toNat);case atStart=>exact⟨0,hp,rfl,rfl,lV.refl j⟩
 case round=>
  obtain⟨k,hk,rfl,rfl,a⟩:=hrel;have y:k<n:=by omega
  by_cases u:p+k<8*B.length
  ·have d:=or_bit (aG B p k) (bK B (p+k)) k (by omega) (kQ _ _) (bO _ _ _);have v:=hide d;clear d;go_wp2_with fail;apply(sW f g off cap z (p+k) B wr (a.feed _ _ _ _ j) (r.step a.step l) (by omega)).mono;rintro e w1 ⟨rfl,b⟩;have G:=kQ B (p+k);go_wp2;go_roundw;case rel=>exact⟨k+1,by omega,by go_num,by rw[v.o];rfl,a.trans b⟩
   case measure=>simp[intOf];omega
  ·go_wp2_with fail;apply(yN f B.length cap (p+k) (bE g off B.length) wr (a.feed _ _ _ _ j) C (by omega) (by omega)).mono;rintro e w1 ⟨rfl,m,rfl⟩;have q:p+k=8*B.length:=(by omega);have c:lV f w (wr.drewN m) (8*B.length):=by
    rw[<-q];exact⟨a.step.drewN m,fun s x F t D=>a.feed s x F t D⟩
   go_wp2_with fail;exact⟨rfl,rfl,c⟩
def RP {α:Type}(r:R α)(val:α->aK)(z:aK)(f:Nat)(w:aH)(e:Ending)(w':aH):Prop:=
 match r with
 | .ok a q=>e= .returned (.tuple #[val a,V 0])/\lV f w w' q
 | .no x=>e= .returned (.tuple #[z,V (x:Nat)])/\∃q,lV f w w' q
 | .miss=>e=lost/\∃q,lV f w w' q
abbrev nat (a:Nat):aK:= .int .i64 (a:Nat)
def Si {z:Nat}(f:Nat)(x:Option Nat)(w:aH)(s:aK)(p:Nat)(b:w.heap[f]? =some (.cells #[s,V p,V z] 91 (0,0))):Calls prog 191 #[.agg #[.map x,V 0],E f] w fun e w'=>e= .returned (.tuple #[V 0,V 9])/\∃q,lV f w w' q:=by
 have a:=fun o=>lV.vU b o;have d:=hide a;clear a b;go_enter func191,ntmps191;go_wp2_with fail;go_loopw [6,11] (fun c i wr=>i=V 0/\c= .int .u32 1/\wr=w.alloc (.cells #[.map x,V 0] 123)) (fun _ _ _=>0);case atStart=>exact⟨rfl,rfl,rfl⟩
 case round=>
  obtain⟨rfl,rfl,rfl⟩:=hrel;go_wp2_with fail;go_ret2;exact⟨rfl,_,d.o _⟩
def BM (f g off cap z p mb:Nat)(D:d9)(B:aD)(w:aH)(T:w.heap[f]? =some (.cells #[.slice (bE g off B.length) B.length cap, .int .i64 (p:Nat), .int .i64 (z:Nat)] 91 (0,0)))(hS:ay5 w g off B)(K:g≠f)(hT:TabAt w mb D.tab)(M:mb≠f)(hl:D.longest<=15)(hp:p<=8*B.length):Calls prog 191 #[.agg #[.map (some mb), .int .i64 (D.longest:Nat)], .pointer (some ⟨f,0,none⟩)] w fun e w'=>RP (lC D B p) nat (nat 0) f w e w':=by
 have ae:=hT.lt;have ad:=aO T;have hm:=hS.much;obtain⟨longest,H⟩:=aP D.longest;have a:jN D B p (longest-0) 0=lC D B p:=by rw[H];rfl
 obtain⟨res,N⟩:=aP (lC D B p);rw[<-N]at a|-
 rw[<-H]at hl|-
 clear H N;go_enter func191,ntmps191;go_wp2_with fail;obtain⟨box,y⟩:=aP (Obj.cells #[.map (some mb), .int .i64 (longest:Nat)] 123);have l:=lV.vU T box;have F:=l.feed _ _ _ _ T;have X:=hT.step l.step M;have W:=hS.step l.step K;have Y:(w.alloc box).heap[w.heap.size]? =some (.cells #[.map (some mb), .int .i64 (longest:Nat)] 123 (0,0)):=by rw[y];exact aR _ _
 have Z:w.heap.size≠f:=by omega
 rw[<-y];generalize ag:w.alloc box=w1 at*;go_loopw [6,11] (fun c i wr=>∃j:Nat,j<=longest/\i= .int .i64 (j:Nat)/\c= .int .u32 (bU B p j:Nat)/\p+j<=8*B.length/\jN D B p (longest-j) j=res/\lV f w1 wr (p+j)) (fun _ i _=>longest-(intOf i).toNat);case atStart=>exact⟨0,by omega,rfl,rfl,hp,a,lV.refl F⟩
 case round=>
  obtain⟨j,hj,rfl,rfl,al,a,d⟩:=hrel;by_cases aj:j<longest
  ·rw[show longest-j=(longest-(j+1))+1 by omega,jN]at a;by_cases k:p+j<8*B.length
   ·rw[aA k]at a;have ak:=G6 B p j (by omega);have L:=G6 B p (j+1) (by omega);have aa:=kQ B (p+j);go_wp2_with fail;apply(sW f g off cap z (p+j) B wr (d.feed _ _ _ _ F) (W.step d.step K) (by omega)).mono;rintro e w2 ⟨rfl,G⟩;have b:=d.trans G;obtain⟨ah,_,_,_⟩:=gB (b.step.at_ Y Z);obtain⟨n,DD,hn,C,S⟩:=X.step b.step M;have ac:bits BinOp.or IntKind.u32 ((bU B p j:Int)*2) (bK B (p+j):Int)=((bU B p (j+1):Nat):Int):=by
     have:=MZ (2*bU B p j) (bK B (p+j)) (by omega) (by omega);rw[a98 _ _ aa]at this;rw[Int.mul_comm];exact this
    have q:=S (bU B p (j+1));obtain⟨Q,u⟩:=aP (bU B p (j+1));have a:=a;rw[<-u]at ac L q a;have R:=hide u;have A:(Lit.int IntKind.u32 (Q:Int)).wf=true:=WalkArith.wf_u32 (by omega);cases hM:D.tab Q with
    |none=>
     rw[hM]at a;have ab:=q.2 hM;have a:=hide a;clear u S q hM;have am:True:=bT;go_wp2_with (first|(at_lookup;refine OJ _ rfl _ _ 121 rfl 198 3 .i64 U2 underlying121 underlying3 (OC _) mb n DD rfl C _ (.int .u32 (Q:Int)) rfl (keyOf_int_mk underlying198 A) ?_;intro c v I;clear v I));go_roundw;case rel=>exact⟨j+1,by omega,by go_num,by rw[R.o],by omega,a,b⟩
     case measure=>simp[intOf];omega
    |some s=>
     rw[hM]at a;have P:=q.1 s hM;obtain⟨af,J⟩:=P;clear u S q hM;go_wp2_with (first|(at_lookup;refine OJ _ rfl _ _ 121 rfl 198 3 .i64 U2 underlying121 underlying3 (OC _) mb n DD rfl C _ (.int .u32 (Q:Int)) rfl (keyOf_int_mk underlying198 A) ?_;intro c v I;have ai:c=(s:Int):=(by have h3:=v.symm.trans J;simpa using h3);clear v I));go_ret2;rw[<-a];exact⟨rfl,l.trans b⟩
   ·rw[aB k]at a;go_wp2_with fail;apply(yN f B.length cap (p+j) (bE g off B.length) wr (d.feed _ _ _ _ F) hm (by omega) (by omega)).mono;rintro e w2 ⟨rfl,m,rfl⟩;have r:lV f w (wr.drewN m) (p+j):=l.trans ⟨d.step.drewN m,fun s x z' t hx=>d.feed s x z' t hx⟩;go_wp2_with fail;rw[<-a];exact⟨rfl,rfl,_,r⟩
  ·have:j=longest:=(by omega);subst this;rw[uL,jN]at a;have r:=hide (l.trans d);go_wp2_with fail;go_ret2;rw[<-a];exact⟨rfl,_,r.o⟩
def LP (r:R (Nat×Nat))(f:Nat)(w:aH)(e:Ending)(w':aH):Prop:=
 match r with
 | .ok lt q=>e= .returned (.tuple #[nat lt.1,nat lt.2])/\lV f w w' q
 | .no _=>False
 | .miss=>e=lost/\∃q,lV f w w' q
def JW {w1:aH}(h:lV f w.drew w1 p):lV f w w1 p:=⟨(aU (·=f) w).drew.trans h.step,fun s x b t a=>h.feed s x b t a⟩
def yR (f g off cap z q a l k:Nat)(B:aD)(w:aH)(s:w.heap[f]? =some (.cells #[.slice (bE g off B.length) B.length cap,V q,V z] 91 (0,0)))(t:ay5 w g off B)(n:g≠f)(hk:k<=20)(A:l<=100)(b:q+k<=8*B.length):Calls prog 224 #[.agg #[nat a,nat l,nat k],E f] w fun e w'=>e= .returned (nat (l+aG B q k))/\lV f w w' (q+k):=by
 have j:=lV.vU s (.cells #[nat a,nat l,nat k] 258);have c:=dO f g off cap z q k B (w.alloc (.cells #[nat a,nat l,nat k] 258)).drew (j.feed _ _ _ _ s) ((t.step j.step n).step ((aU (fun _=>False) _).drew) (fun x=>x)) n (by omega) b;have r:=bO B q k;have hp:2^k<=2^20:=gL (by omega) hk;obtain⟨m,v⟩:=aP (aG B q k);rw[<-v]at c r|-
 have y:IntKind.i64.wrap ((l:Int)+(m:Int))=((l+m:Nat):Int):=by rw[dK];omega
 have u:=aO s;clear s t v r hp;go_enter func224,ntmps224;go_wp2_with fail;have d:(w.alloc (.cells #[nat a,nat l,nat k] 258)).heap[w.heap.size]? =some (.cells #[nat a,nat l,nat k] 258 (0,0)):=aR _ _;generalize w.alloc (.cells #[nat a,nat l,nat k] 258)=w1 at*;have c1:=(show w1.cell? (U w.heap.size 1)=some (nat l) from aC d 1 _ rfl)
 have c2:=(show w1.cell? (U w.heap.size 2)=some (nat k) from aC d 2 _ rfl)
 clear d;have o:¬(w.heap.size=f):=by omega
 go_region_held3 (fun w'=>w'.cell? (U w.heap.size 1)=some (nat l)/\w'.cell? (U w.heap.size 2)=some (nat k)) (go_keep)
  (first|(go_at_call 119;apply c.mono;rintro e w2 ⟨rfl,i⟩;have k1:=i.step.cell (p:=(U w.heap.size 1)) c1 o;have k2:=i.step.cell (p:=(U w.heap.size 2)) c2 o))
 all_goals
  go_wp2_with fail;go_ret;exact⟨rfl,j.trans (JW i)⟩
def vN (f g off cap z q a l k:Nat)(B:aD)(w:aH)(n:w.heap[f]? =some (.cells #[.slice (bE g off B.length) B.length cap,V q,V z] 91 (0,0)))(o:ay5 w g off B)(i:g≠f)(r:q<=8*B.length)(hk:k<=20)(b:8*B.length<q+k):Calls prog 224 #[.agg #[nat a,nat l,nat k],E f] w fun e w'=>e=lost/\∃q',lV f w w' q':=by
 have c:=lV.vU n (.cells #[nat a,nat l,nat k] 258);have j:=dL f g off cap z q k B (w.alloc (.cells #[nat a,nat l,nat k] 258)).drew (c.feed _ _ _ _ n) ((o.step c.step i).step ((aU (fun _=>False) _).drew) (fun x=>x)) i (by omega) r b;go_enter func224,ntmps224;go_wp2_with fail;have d:(w.alloc (.cells #[nat a,nat l,nat k] 258)).heap[w.heap.size]? =some (.cells #[nat a,nat l,nat k] 258 (0,0)):=aR _ _;generalize w.alloc (.cells #[nat a,nat l,nat k] 258)=w1 at*;have c1:=(show w1.cell? (U w.heap.size 1)=some (nat l) from aC d 1 _ rfl)
 have c2:=(show w1.cell? (U w.heap.size 2)=some (nat k) from aC d 2 _ rfl)
 go_region_dies;all_goals
  apply j.mono;rintro e w2 ⟨rfl,m⟩;exact⟨rfl,rfl,_,c.trans (JW m)⟩
def NR (f g off cap z q s D n:Nat)(row B:aD)(w:aH)(u:w.heap[f]? =some (.cells #[.slice (bE g off B.length) B.length cap,V q,V z] 91 (0,0)))(v:ay5 w g off B)(j:g≠f)(P:q<=8*B.length)(m:s=16->0<row.length/\row.length<=400/\w.cell? ⟨D,row.length-1,none⟩=some (nat (row[row.length-1]?.getD 0)))(K:D≠f)(Y:s<19)(J:bL w)(aa:4<=f):Calls prog 219 #[E f,V s, .slice (some (U D 0)) row.length n] w fun e w'=>LP (fO B q s row) f w e w':=by
 have hm:=v.much;obtain⟨m0,m1,m2⟩:=J.many;obtain⟨n0,n1,n2⟩:=J.few;obtain⟨a0,a1,a2⟩:=J.again;by_cases r:s<16
 ·have i:fO B q s row= .ok (s,1) q:=by unfold fO;rw[aA r]
  have T:((s:Int)==16)=false:=aX.2 (by omega);have W:((s:Int)==17)=false:=aX.2 (by omega);have X:((s:Int)==18)=false:=aX.2 (by omega);have C:=hide (lV.refl u);go_enter func219,ntmps219;go_wp2_with fail;go_ret2;rw[i];exact⟨rfl,C.o⟩
 ·by_cases L:s=16
  ·subst L;obtain⟨R,S,F⟩:=m rfl;obtain⟨x,H⟩:=aP (row[row.length-1]?.getD 0);have A:((row.length:Int)-1)=((row.length-1:Nat):Int):=(by omega);rw[<-H]at F;obtain⟨k,hk⟩:=aP (row.length-1);obtain⟨l,G⟩:=aP row.length;by_cases a:q+2<=8*B.length
   ·have i:fO B q 16 row= .ok (x,aG B q 2+3) (q+2):=(by unfold fO;rw[aB (by omega),aA rfl,aA a,H]);have d:=yR f g off cap z q 16 3 2 B w.drew u (v.step ((aU (fun _=>False) w).drew) (fun x=>x)) j (by omega) (by omega) a;rw[<-hk]at A F;rw[<-G]at A S|-
    have Q:IntKind.i64.wrap ((l:Int)-1)=(k:Int):=(by rw[dK];omega);have M:(0:Int)<=(k:Int):=(by omega);have N:(k:Int)<(l:Int):=(by omega);have y:¬(3=f):=(by omega);clear m H hk G R A;go_enter func219,ntmps219;go_wp2_with fail
    go_region_held3 (fun w'=>w'.cell? (U D k)=some (nat x)/\w'.cell? ⟨3,0,none⟩=some (V 16)/\w'.cell? ⟨3,1,none⟩=some (V 3)/\w'.cell? ⟨3,2,none⟩=some (V 2)) (go_keep)
     (first|(go_at_call 224;apply d.mono;rintro e w2 ⟨rfl,c⟩;have k1:=c.step.cell (p:=(U D k)) F K;have k2:=c.step.cell (p:=⟨3,0,none⟩) a0 y;have k3:=c.step.cell (p:=⟨3,1,none⟩) a1 y;have k4:=c.step.cell (p:=⟨3,2,none⟩) a2 y))
    all_goals
     go_wp2_with fail;go_ret2;rw[i,Nat.add_comm];exact⟨rfl,JW c⟩
   ·have i:fO B q 16 row= .miss:=(by unfold fO;rw[aB (by omega),aA rfl,aB a]);have d:=vN f g off cap z q 16 3 2 B w.drew u (v.step ((aU (fun _=>False) w).drew) (fun x=>x)) j P (by omega) (by omega);have Z:=hide d;have HR:=hide i;rw[<-hk]at A F;rw[<-G]at A S|-
    have Q:IntKind.i64.wrap ((l:Int)-1)=(k:Int):=(by rw[dK];omega);have M:(0:Int)<=(k:Int):=(by omega);have N:(k:Int)<(l:Int):=(by omega);clear i m H d hk G R A;go_enter func219,ntmps219;go_wp2_with fail;go_region_dies;all_goals
     apply Z.o.mono;rintro e w2 ⟨rfl,q',c⟩;refine⟨rfl,?_⟩;rw[HR.o];exact⟨rfl,_,JW c⟩
  ·by_cases t:s=17
   ·subst t;by_cases a:q+3<=8*B.length
    ·have i:fO B q 17 row= .ok (0,aG B q 3+3) (q+3):=(by unfold fO;rw[aB (by omega),aB (by omega),aA rfl,aA a]);go_enter func219,ntmps219;go_wp2_with fail;apply(yR f g off cap z q 17 3 3 B w u v j (by omega) (by omega) a).mono;rintro e w1 ⟨rfl,b⟩;go_wp2_with fail;go_ret2;rw[i,Nat.add_comm];exact⟨rfl,b⟩
    ·have i:fO B q 17 row= .miss:=(by unfold fO;rw[aB (by omega),aB (by omega),aA rfl,aB a]);go_enter func219,ntmps219;go_wp2_with fail;apply(vN f g off cap z q 17 3 3 B w u v j P (by omega) (by omega)).mono;rintro e w1 ⟨rfl,q',b⟩;go_wp2_with fail;rw[i];exact⟨rfl,rfl,_,b⟩
   ·have I:s=18:=(by omega);subst I;by_cases a:q+7<=8*B.length
    ·have i:fO B q 18 row= .ok (0,aG B q 7+11) (q+7):=(by unfold fO;rw[aB r,aB L,aB t,aA a]);go_enter func219,ntmps219;go_wp2_with fail;apply(yR f g off cap z q 18 11 7 B w u v j (by omega) (by omega) a).mono;rintro e w1 ⟨rfl,b⟩;go_wp2_with fail;go_ret2;rw[i,Nat.add_comm];exact⟨rfl,b⟩
    ·have i:fO B q 18 row= .miss:=(by unfold fO;rw[aB r,aB L,aB t,aB a]);go_enter func219,ntmps219;go_wp2_with fail;apply(vN f g off cap z q 18 11 7 B w u v j P (by omega) (by omega)).mono;rintro e w1 ⟨rfl,q',b⟩;go_wp2_with fail;rw[i];exact⟨rfl,rfl,_,b⟩
structure BQ (w wr:aH)(f R n p mb longest:Nat)(row:aD):Prop where
 own:wr.ownsRow (R+1) 3 1 (.slice (some ⟨R+1,0,none⟩) row.length n) row.length (TJ row)
 fed:lV f w wr p
 box:wr.heap[R]? =some (.cells #[.map (some mb),V (longest:Nat)] 123 (0,0))
def BQ.aA6 {wr w2:aH}{R n p2 mb longest:Nat}(h:BQ w wr f R n p mb longest row)(b:lV f wr w2 p2)(a:¬R=f)(d:f<R+1):BQ w w2 f R n p2 mb longest row:=⟨bX h.own (fun j c=>b.step.block j (h.own.lt j c).2 (fun x=>by have:=(h.own.lt j c).1;omega)),h.fed.trans b,b.step.at_ h.box a⟩
def BQ.last {wr:aH}{R n mb longest:Nat}(h:BQ w wr f R n p mb longest row)(b:0<row.length):wr.cell? ⟨R+1,row.length-1,none⟩=some (nat (row[row.length-1]?.getD 0)):=by have a:=h.own.cellAt (row.length-1) (by omega);rw[a];simp[bV (show row.length-1<row.length by omega)]
def aE1 (r:R (aD))(n f:Nat)(w:aH)(e:Ending)(w':aH):Prop:=
 match r with
 | .ok row q=>row.length=n/\∃RB,e= .returned (.tuple #[.slice (some (U RB 0)) n n,V 0])/\w.heap.size<=RB/\Ints w' RB 0 row/\lV f w w' q
 | .no x=>e= .returned (.tuple #[.slice none 0 0,V (x:Nat)])/\∃q,lV f w w' q
 | .miss=>e=lost/\∃q,lV f w w' q
def QH (D:d9)(B:aD)(p:Nat):∀r j e,jN D B p r j= .no e->e=9:=by
 intro r;induction r with
 |zero=>intro j e h;simp only[jN,R.no.injEq]at h;exact h.symm
 |succ r ih=>
  intro j e h;rw[jN]at h;split at h
  ·split at h
   ·simp at h
   ·exact ih _ _ h
  ·simp at h
def oU {D:d9}{e:Nat}(h:lC D B p= .no e):e=9:=QH D B p _ _ _ h
def J3 {q s e:Nat}(h:fO B q s row= .no e):False:=by
 unfold fO at h;split at h
 ·simp at h
 ·split at h
  ·split at h<;>simp at h
  ·split at h<;>split at h<;>simp at h
def ab1 {q s:Nat}{lt:Nat×Nat}{q':Nat}(h:fO B q s row= .ok lt q')(a:∀i:Nat,row[i]?.getD 0<=15):lt.1<=15/\lt.2<=138:=by
 unfold fO at h;split at h
 ·simp only[R.ok.injEq]at h;obtain⟨rfl,rfl⟩:=h;exact⟨by dsimp only;omega,by simp⟩
 ·split at h
  ·split at h
   ·have:=bO B q 2;simp only[R.ok.injEq]at h;obtain⟨rfl,rfl⟩:=h;exact⟨a _,by dsimp only;omega⟩
   ·simp at h
  ·split at h
   ·split at h
    ·have:=bO B q 3;simp only[R.ok.injEq]at h;obtain⟨rfl,rfl⟩:=h;exact⟨by simp,by dsimp only;omega⟩
    ·simp at h
   ·split at h
    ·have:=bO B q 7;simp only[R.ok.injEq]at h;obtain⟨rfl,rfl⟩:=h;exact⟨by simp,by dsimp only;omega⟩
    ·simp at h
def zX (row:aD)(t l:Nat)(a:∀i:Nat,row[i]?.getD 0<=15)(c:l<=15):∀i:Nat,(row++List.replicate t l)[i]?.getD 0<=15:=by
 intro i;by_cases hi:i<row.length
 ·rw[jA hi];exact a i
 ·rw[kZ (by omega)];by_cases b:i-row.length<t
  ·simp[b,c]
  ·rw[fZ (by simp;omega)];simp
def Gz (f g off cap z n mb p:Nat)(D:d9)(B:aD)(w:aH)(hF:w.heap[f]? =some (.cells #[.slice (bE g off B.length) B.length cap,V p,V z] 91 (0,0)))(hS:ay5 w g off B)(Q:g≠f)(hT:TabAt w mb D.tab)(am:mb≠f)(hl:D.longest<=15)(hp:p<=8*B.length)(bn:n<=400)(aq:∀c s,D.tab c=some s->s<19)(hO:bL w)(av:4<=f):Calls prog 213 #[E f, .agg #[.map (some mb),V D.longest],V n] w fun e w'=>aE1 (NM D B n p) n f w e w':=by
 obtain⟨i0,hi,ba,ar,bb⟩:=eD info3;have HF:=hide hF;have bc:=aO hF;obtain⟨res,ab⟩:=aP (NM D B n p);have ae:=hide (show iC D B n n p []=res by rw[ab];rfl);have au:=hide aq;rw[<-ab];clear hF ab aq;go_enter func213,ntmps213;go_wp2_with (at_make;refine wpList_make_own _ rfl _ _ 57 rfl (w.heap.size+1) 3 i0 (V 0) 1 underlying57 hi ba ar .i64 .i64 _ n rfl rfl rfl (by rw[bb];omega) (by unfold maxLen;omega) (by simp) ?_;intro w1 N H);obtain⟨R,hR⟩:=aP w.heap.size;have I:w1.ownsRow (R+1) 3 1 (.slice (some ⟨R+1,0,none⟩) 0 n) 0 (TJ []):=by
  rw[hR];simpa using N
 have h0:BQ w w1 f R n p mb D.longest []:=by
  refine⟨I,?_,?_⟩
  ·have h1:=lV.vU HF.o (.cells #[.map (some mb),V D.longest] 123);refine⟨h1.step.grown H (fun k hk=>by cases hk),fun s x z' t hx=> ?_⟩;exact(H.block f (by simp;omega) (by simp)).trans (h1.feed s x z' t hx)
  ·rw[hR];exact(H.block _ (by simp) (by simp)).trans (aR _ _)
 have ai:¬R=f:=by omega
 have aj:R+1≠f:=by omega
 have bh:f<R:=by omega
 have bg:w.heap.size<=R:=by omega
 have bm:mb<R+1:=by have:=hT.lt;omega
 have be:mb≠R:=by have:=hT.lt;omega
 rw[<-hR];clear N I H hR;go_loopw [8] (fun v wr=>∃(row:aD) (k p:Nat),row.length<=n/\n<=row.length+k/\p<=8*B.length/\(∀i:Nat,row[i]?.getD 0<=15)/\iC D B n k p row=res/\v= .slice (some ⟨R+1,0,none⟩) row.length n/\BQ w wr f R n p mb D.longest row) (fun v _=>n-Xp v);case atStart=>exact⟨[],n,p,by simp,by simp,hp,by simp,ae.o,rfl,h0⟩
 case round=>
  clear h0 ae;obtain⟨row,k,q,hk,bk,hq,af,a,rfl,hrel⟩:=hrel;have Y:=hide af;clear af;by_cases ax:row.length<n
  ·obtain⟨k,rfl⟩:∃j,k=j+1:=⟨k-1,by omega⟩
   rw[iC,aB (by omega)]at a;obtain⟨b0,b1,_,_⟩:=gB hrel.box;have C:=BM f g off cap z q mb D B wr (hrel.fed.feed _ _ _ _ HF.o) (hS.step hrel.fed.step Q) Q (hT.step hrel.fed.step am) am hl hq;have K:=hide hrel;obtain⟨len,A⟩:=aP row.length;rw[<-A]at hk ax|-
   have b:=hide A;clear hrel A;cases hs:lC D B q with
   |no x=>
    have hx:=oU hs;subst hx;rw[hs]at C a;have J:=hide C;have y:=hide a;clear C a hs;go_wp2_with fail;apply J.o.mono;rintro e w2 ⟨rfl,q2,d⟩;have r:=hide (K.o.fed.trans d);clear d;go_wp2_with fail;go_ret2;rw[<-y.o];exact⟨rfl,_,r.o⟩
   |miss=>
    rw[hs]at C a;have J:=hide C;have y:=hide a;clear C a hs;go_wp2_with fail;apply J.o.mono;rintro e w2 ⟨rfl,q2,d⟩;have r:=hide (K.o.fed.trans d);clear d;go_wp2_with fail;rw[<-y.o];exact⟨rfl,rfl,_,r.o⟩
   |ok s q1=>
    have ad:=oV hs;rw[hs]at C a;have ap:=au.o _ _ ad.2.2.2;have an:q1<=8*B.length:=ad.2.1;have J:=hide C;have y:=hide a;clear C a hs ad;go_wp2_with fail;apply J.o.mono;rintro e w2 ⟨rfl,d⟩;have m:BQ w w2 f R n q1 mb D.longest row:=K.o.aA6 d ai (by omega);have ah:=hO.step m.fed.step (fun k hk x=>by omega);have ga:=ah.again.1;by_cases ag:s=16/\len=0
    ·obtain⟨ao,S⟩:=ag;subst ao;subst S;have r:=hide m.fed;go_wp2_with fail;go_ret2;have a:=y.o;rw[aA (by rw[<-b.o];simp)]at a;rw[<-a];exact⟨rfl,_,r.o⟩
    ·have a:=y.o;rw[aB (by rw[<-b.o];exact ag)]at a;have M:=NR f g off cap z q1 s (R+1) n row B w2 (m.fed.feed _ _ _ _ HF.o) (hS.step m.fed.step Q) Q an (fun h=>by
      have S:0<row.length:=(by have:=b.o;omega);exact⟨S,by have:=b.o;omega,m.last S⟩) aj ap ah av
     rw[<-b.o]at M;have Z:((s:Int)==16)=false\/(((s:Int)==16)=true/\((len:Int)==0)=false):=by
      by_cases bf:s=16
      ·exact .inr ⟨dI.2 (by omega),aX.2 (by omega)⟩
      ·exact .inl (aX.2 (by omega))
     rcases Z with az|⟨az,bl⟩
     all_goals
      cases hle:fO B q1 s row with
      |no x=>exact(J3 hle).elim
      |miss=>
       rw[hle]at M a;go_wp2_with fail;apply M.mono;rintro e w3 ⟨rfl,q3,G⟩;have r:=hide (m.fed.trans G);go_wp2_with fail;rw[<-a];exact⟨rfl,rfl,_,r.o⟩
      |ok lt q2=>
       have al:=TW hle an;have W:=ab1 hle Y.o;rw[hle]at M a;obtain⟨l,t⟩:=lt;dsimp only at al W;go_wp2_with fail;apply M.mono;rintro e w3 ⟨rfl,G⟩;dsimp only;have P:BQ w w3 f R n q2 mb D.longest row:=m.aA6 G ai (by omega);have a:=a;by_cases T:n<len+t
       ·rw[aA (by rw[<-b.o];exact T)]at a;have r:=hide P.fed;go_wp2_with fail;go_ret2;rw[<-a];exact⟨rfl,_,r.o⟩
       ·rw[aB (by rw[<-b.o];exact T)]at a;go_wp2_with fail;go_loopw [8,51] (fun v i wr=>∃j:Nat,j<=t/\i=V (j:Nat)/\v= .slice (some ⟨R+1,0,none⟩) (len+j) n/\BQ w wr f R n q2 mb D.longest (row++List.replicate j l)) (fun _ i _=>t-(intOf i).toNat);case atStart=>exact⟨0,by omega,rfl,rfl,by simpa using P⟩
        case round=>
         obtain⟨j,hj,rfl,rfl,hrel⟩:=hrel;have F:(row++List.replicate j l).length=len+j:=(by simp[b.o]);by_cases bj:j<t
         ·have X:=hrel.own;rw[F]at X;go_wp2_with (at_builtin;refine PD _ rfl _ _ 57 rfl (R+1) 3 i0 1 underlying57 hi ar (R+1) (len+j) n (TJ (row++List.replicate j l)) rfl (X.alloc _) (U wr.heap.size 0) 1 1 [V (l:Nat)] rfl rfl ?d1 ?d2 (by omega) ?_);case d1=>
           intro j u hj;match j,hj with
           |0,hj=>simp at hj;subst hj;simp[Addr.add]
          case d2=>intro u hu;simp at hu;subst hu;rfl
          intro w4 aa L;have ac:BQ w w4 f R n q2 mb D.longest (row++List.replicate (j+1) l):=by
           have hw:=hrel;have e1:row++List.replicate (j+1) l=(row++List.replicate j l)++[l]:=(by rw[dB,<-OX]);refine⟨?_,⟨(hw.fed.step.alloc _).grown L (fun j hj=> .inr (by simp at hj;omega)),fun s x z' t hx=> ?_⟩,?_⟩
           ·have e2:TJ (row++List.replicate (j+1) l)=List.map (fun c=>V (c:Nat)) row++(List.replicate j (V (l:Nat))++[V (l:Nat)]):=(by simp[TJ,OX]);have e3:(row++List.replicate (j+1) l).length=len+j+1:=(by rw[e1,aN,F];rfl);rw[e2,e3];exact aa
           ·have h1:=hw.fed.feed s x z' t hx;exact(L.block f (by have:=aO h1;simp;omega) (by simp;omega)).trans ((dG _ _ _ (aO h1)).trans h1)
           ·exact(L.block R (by have:=aO hw.box;simp;omega) (by simp)).trans ((dG _ _ _ (aO hw.box)).trans hw.box)
          go_wp2_with fail;go_roundw;case rel=>exact⟨j+1,by omega,by go_num,by rw[iV],ac⟩
          case measure=>simp[intOf];omega
         ·have ak:j=t:=(by omega);subst ak;go_wp2_with fail;go_roundw;case rel=>exact⟨row++List.replicate j l,k,q2,by rw[F];omega,by rw[F];have:=b.o;omega,al.2.1,zX row j l Y.o W.1,a,by rw[F],hrel⟩
          case measure=>simp[Xp];omega
  ·have A:row.length=n:=(by omega);have ay:res= .ok row q:=by
    rw[<-a];cases k with
    |zero=>rfl
    |succ k=>rw[iC,aA (by omega)]
   have b:=hide A;rw[A];go_wp2_with fail;go_ret2;rw[ay];refine⟨b.o,R+1,rfl,by omega,⟨fun i aw=> ?_,Y.o,by have:=b.o;omega⟩,hrel.fed⟩;have h9:=hrel.own.cellAt i (by omega);rw[dS,h9];simp[bV aw]
def ah3 (L:aD)(q f:Nat)(w:aH)(e:Ending)(w':aH):Prop:=
 if fF L=true then∃mb,e= .returned (.tuple #[.agg #[.map (some mb),V ((aI L).longest:Nat)],V 0])/\w.heap.size<=mb/\TabAt w' mb (aI L).tab/\lV f w w' q
 else e= .returned (.tuple #[.agg #[.map none,V 0],V 7])/\∃q,lV f w w' q
def PW (f g off cap z p c:Nat)(B:aD)(w:aH)(hF:w.heap[f]? =some (.cells #[.slice (bE g off B.length) B.length cap,V p,V z] 91 (0,0)))(hS:ay5 w g off B)(J:g≠f)(hp:p<=8*B.length)(hc:c<=19)(hO:bL w)(ag:4<=f):Calls prog 212 #[E f,V c] w fun e w'=>(p+3*c<=8*B.length/\ah3 (bD B p c) (p+3*c) f w e w')\/(8*B.length<p+3*c/\e=lost/\∃q,lV f w w' q):=by
  have Q:=hide hF;have af:=aO hF;go_enter func212,ntmps212;go_wp2_with fail;rw[aB5];obtain⟨R,hR⟩:=aP w.heap.size;have d:bA ((w.alloc (.cells #[.map none,V 0] 123)).alloc (.cells (Array.replicate 19 (V 0)) 216)) (R+1) 216 19 (fun i=>V (wI B p 0 i:Nat)):=by
    have:=bA.born (w.alloc (.cells #[.map none,V 0] 123)) (A:=Array.replicate 19 (V 0)) (n:=19) (f:=fun i=>V (wI B p 0 i:Nat)) 216 (by simp) (fun i hi=>by simp[hi,wI]);rw[hR];simpa using this
  have m:((w.alloc (.cells #[.map none,V 0] 123)).alloc (.cells (Array.replicate 19 (V 0)) 216)).heap[R]? =some (.cells #[.map none,V 0] 123 (0,0)):=by
    rw[hR];exact(dG _ _ _ (by simp)).trans (aR _ _)
  have ad:lV f w ((w.alloc (.cells #[.map none,V 0] 123)).alloc (.cells (Array.replicate 19 (V 0)) 216)) p:=by
    have Z:=lV.vU Q.o (.cells #[.map none,V 0] 123);exact Z.trans (lV.vU (Z.feed _ _ _ _ Q.o) _)
  have D:¬R=f:=by omega
  have r:¬R+1=f:=by omega
  have I:w.heap.size<=R:=by omega
  rw[<-hR];generalize(w.alloc (.cells #[.map none,V 0] 123)).alloc (.cells (Array.replicate 19 (V 0)) 216)=w1 at*;clear hR;go_loopw [9] (fun i wr=>∃k:Nat,k<=c/\p+3*k<=8*B.length/\i=V (k:Nat)/\lV f w wr (p+3*k)/\bA wr (R+1) 216 19 (fun i=>V (wI B p k i:Nat))/\wr.heap[R]? =some (.cells #[.map none,V 0] 123 (0,0))) (fun i _=>c-(intOf i).toNat);case atStart=>exact⟨0,by omega,by omega,rfl,ad,d,m⟩
  case round=>
    obtain⟨k,hk,P,rfl,a,d,m⟩:=hrel;by_cases ak:k<c
    . have W:=hO.step a.step (fun k hk x=>by omega)
      have M:=W.order k (by omega)
      have N:=Dt k
      obtain⟨q,hq⟩:=aP (bP[k]?.getD 0)
      rw[<-hq]at M N
      have an:((q:Nat):Int)<19:=by omega
      have aj:((k:Nat):Int)<19:=by omega
      have ai:(0:Int)<=((k:Nat):Int):=by omega
      have am:(0:Int)<=((q:Nat):Int):=by omega
      have cq:=d.cell q N
      have fq:=d.free q
      have HQ:=hide hq
      by_cases aa:p+3*k+3<=8*B.length
      . have y:=dO f g off cap z (p+3*k) 3 B wr.drew (a.feed _ _ _ _ Q.o) ((hS.step a.step J).step ((aU (fun _=>False) wr).drew) (fun x=>x)) J (by omega) (by omega)
        have S:=hide y
        have ab:=hide m
        clear hq y m W
        go_wp2_with fail
        refine wp_region_noPanic ?_
        go_region_held3 (fun w'=>w'.cell? ⟨0,k,none⟩=some (V (q:Nat))) (go_keep)
          (first|(go_at_call 119;apply S.o.mono;rintro e w2 ⟨rfl,b⟩;have k1:=b.step.cell (p:=⟨0,k,none⟩) M (by show¬(0=f);omega);have k2:=(d.drew.step b.step r).cell q N;have k3:=(d.drew.step b.step r).free q))
        all_goals
          refine NoPanic.normal ?_;have ae:bA (w2.setCell ⟨R+1,q,none⟩ (V (aG B (p+3*k) 3:Nat))) (R+1) 216 19 (fun i=>V (wI B p (k+1) i:Nat)):=by
            refine((d.drew.step b.step r).set q (V (aG B (p+3*k) 3:Nat))).congr fun i _=> ?_;rw[wI,<-HQ.o];by_cases hi:i=q<;>simp[hi]
          have Y:(w2.setCell ⟨R+1,q,none⟩ (V (aG B (p+3*k) 3:Nat))).heap[R]? =some (.cells #[.map none,V 0] 123 (0,0)):=
            (cZ _ _ _ _ (by simp)).trans (b.step.at_ (w:=wr.drew) ab.o D)
          have X:lV f w (w2.setCell ⟨R+1,q,none⟩ (V (aG B (p+3*k) 3:Nat))) (p+3*k+3):=by
            have Z:lV f wr w2 (p+3*k+3):=⟨(aU (·=f) wr).drew.trans b.step,fun s x H t C=>b.feed s x H t C⟩
            have K:=a.trans Z;exact⟨K.step.aZ (by simp;omega) _,fun s x H t C=>(cZ _ _ _ _ (fun e=>r e.symm)).trans (K.feed s x H t C)⟩
          have H2:=hide Y;clear Y b k1 k2 k3 cq fq M;go_wp2_with fail;go_roundw;case rel=>exact⟨k+1,by omega,by omega,by go_num,X,ae,H2.o⟩
          case measure=>simp[intOf];omega
      . have y:=dL f g off cap z (p+3*k) 3 B wr.drew (a.feed _ _ _ _ Q.o) ((hS.step a.step J).step ((aU (fun _=>False) wr).drew) (fun x=>x)) J (by omega) P (by omega)
        have j:=hide a
        go_wp2_with fail
        go_region_dies
        all_goals
          apply y.mono;rintro e w2 ⟨rfl,b⟩;refine⟨rfl, .inr ⟨by omega,rfl,_,j.o.trans ⟨(aU (·=f) wr).drew.trans b.step,fun s x H t C=>b.feed s x H t C⟩⟩⟩
    . have:k=c:=by omega
      subst this
      have G:Ints wr (R+1) 0 (bD B p k):=⟨fun i hi=>by
          rw[jD]at hi;rw[EZ _ _ _ _ hi,dS];exact d.cell i hi,Z8 B p k,by rw[jD];omega⟩
      have HI:=hide G
      have j:=hide a
      have T:∀w3,O wr w3->lV f w w3 (p+3*k):=fun w3 l=>j.o.trans ⟨l.mono (fun _ x=>x.elim),fun s x H t C=>by
            have h9:=j.o.feed _ _ _ _ Q.o;rw[h9]at C;cases C;exact l.at_ h9 (fun x=>x)⟩
      clear G a d
      go_wp2_with fail
      by_cases u:fF (bD B p k)=true
      . have F:=vD (R+1) 0 19 (bD B p k) wr HI.o u
        rw[jD]at F
        apply F.mono
        rintro e w3 ⟨mb,rfl,al,L,l⟩
        obtain⟨r0,r1,rf0,rf1⟩:=gB (l.at_ m (fun x=>x))
        have ah:=aO m
        have HT:=hide L
        clear L
        go_wp2_with fail
        refine aY (v:= .tuple #[.agg #[.map (some mb),V ((aI (bD B p k)).longest:Nat)],V 0]) (by simp[results,results212,go_sem,r0,r1]) rfl (.inl ⟨P,?_⟩)
        unfold ah3
        rw[aA u]
        refine⟨mb,rfl,?_,?_,?_⟩
        . have:=j.o.step.size;omega
        . exact HT.o.of ((cZ _ _ _ _ (by simp;omega)).trans (cZ _ _ _ _ (by simp;omega)))
        . have K:=T _ l
          exact⟨(K.step.aZ (by simpa using I) _).aZ (by simpa using I) _,fun s x H t C=>(cZ _ _ _ _ (fun e=>D e.symm)).trans ((cZ _ _ _ _ (fun e=>D e.symm)).trans (K.feed s x H t C))⟩
      . have F:=LJ (R+1) 0 19 (bD B p k) wr HI.o (by simpa using u)
        rw[jD]at F
        apply F.mono
        rintro e w3 ⟨rfl,l⟩
        obtain⟨r0,r1,rf0,rf1⟩:=gB (l.at_ m (fun x=>x))
        have ac:=hide l
        go_wp2_with fail
        refine aY (v:= .tuple #[.agg #[.map none,V 0],V 7]) (by simp[results,results212,go_sem,r0,r1]) rfl (.inl ⟨P,?_⟩)
        unfold ah3
        rw[aB u]
        refine⟨rfl,p+3*k,?_⟩
        have K:=T _ ac.o
        exact⟨(K.step.aZ (by simpa using I) _).aZ (by simpa using I) _,fun s x H t C=>(cZ _ _ _ _ (fun e=>D e.symm)).trans ((cZ _ _ _ _ (fun e=>D e.symm)).trans (K.feed s x H t C))⟩
end Go.Proofs.YtbpahojchgpdnaaGreatDoor
