import Derived.RegionDies
import Derived.Test.YtbpahojchgpdnaaGreatDoorCodesDeal2
set_option maxRecDepth 20000
set_option maxHeartbeats 4000000
set_option linter.all false
namespace Go.Proofs.YtbpahojchgpdnaaGreatDoor
open Go.RowKit Go.dM Go.Maps Go.Proofs.Tryz
abbrev lost:Ending:= .panicked [{ v:=missing,recovered:=false }]
variable {f p:Nat} {w:aH} {B row:aD}
def dL (f g off cap z p n:Nat)(B:aD)(w:aH)(l:w.heap[f]? =some (.cells #[.slice (bE g off B.length) B.length cap,V p,V z] 91 (0,0)))(u:Src w g off B)(q:g≠f)(hn:n<=60)(hp:p<=8*B.length)(y:8*B.length<p+n):Calls prog 119 #[E f,V n] w fun e w'=>e=lost/\lV f w w' (8*B.length):=by
 have F:=u.much;go_enter func119,ntmps119;go_wp2;go_loopw [5,8] (fun x i wr=>∃k:Nat,p+k<=8*B.length/\i=V k/\x=V (aG B p k:Nat)/\lV f w wr (p+k)) (fun _ i _=>n-(intOf i).toNat);case atStart=>exact⟨0,hp,rfl,rfl,lV.refl l⟩
 case round=>
  obtain⟨k,hk,rfl,rfl,a⟩:=hrel;have D:k<n:=by omega
  by_cases r:p+k<8*B.length
  ·have c:=or_bit (aG B p k) (bK B (p+k)) k (by omega) (kQ _ _) (bO _ _ _);have C:=hide c;clear c;go_wp2_with fail;apply(sW f g off cap z (p+k) B wr (a.feed _ _ _ _ l) (u.step a.step q) (by omega)).mono;rintro e w1 ⟨rfl,b⟩;have G:=kQ B (p+k);go_wp2;go_roundw;case rel=>exact⟨k+1,by omega,by go_num,by rw[C.o];rfl,a.trans b⟩
   case measure=>simp[intOf];omega
  ·go_wp2_with fail;apply(yN f B.length cap (p+k) (bE g off B.length) wr (a.feed _ _ _ _ l) F (by omega) (by omega)).mono;rintro e w1 ⟨rfl,m,rfl⟩;have j:p+k=8*B.length:=(by omega);have d:lV f w (wr.drewN m) (8*B.length):=by
    rw[<-j];exact⟨a.step.drewN m,fun s x v t A=>a.feed s x v t A⟩
   go_wp2_with fail;exact⟨rfl,rfl,d⟩
def RP {α:Type}(r:R α)(val:α->aK)(z:aK)(f:Nat)(w:aH)(e:Ending)(w':aH):Prop:=
 match r with
 | .ok a q=>e= .returned (.tuple #[val a,V 0])/\lV f w w' q
 | .no x=>e= .returned (.tuple #[z,V (x:Nat)])/\∃q,lV f w w' q
 | .miss=>e=lost/\∃q,lV f w w' q
abbrev nat (a:Nat):aK:= .int .i64 (a:Nat)
def Si {z:Nat}(f:Nat)(x:Option Nat)(w:aH)(s:aK)(p:Nat)(b:w.heap[f]? =some (.cells #[s,V p,V z] 91 (0,0))):Calls prog 191 #[.agg #[.map x,V 0],E f] w fun e w'=>e= .returned (.tuple #[V 0,V 9])/\∃q,lV f w w' q:=by
 have a:=fun o=>lV.vU b o;have d:=hide a;clear a b;go_enter func191,ntmps191;go_wp2_with fail;go_loopw [6,11] (fun c i wr=>i=V 0/\c= .int .u32 1/\wr=w.alloc (.cells #[.map x,V 0] 123)) (fun _ _ _=>0);case atStart=>exact⟨rfl,rfl,rfl⟩
 case round=>
  obtain⟨rfl,rfl,rfl⟩:=hrel;go_wp2_with fail;go_ret2;exact⟨rfl,_,d.o _⟩
def BM (f g off cap z p mb:Nat)(D:d9)(B:aD)(w:aH)(hF:w.heap[f]? =some (.cells #[.slice (bE g off B.length) B.length cap, .int .i64 (p:Nat), .int .i64 (z:Nat)] 91 (0,0)))(hS:Src w g off B)(L:g≠f)(hT:TabAt w mb D.tab)(P:mb≠f)(hl:D.longest<=15)(hp:p<=8*B.length):Calls prog 191 #[.agg #[.map (some mb), .int .i64 (D.longest:Nat)], .pointer (some ⟨f,0,none⟩)] w fun e w'=>RP (lC D B p) nat (nat 0) f w e w':=by
 have ad:=hT.lt;have ac:=aO hF;have hm:=hS.much;obtain⟨longest,F⟩:=aP D.longest;have a:jN D B p (longest-0) 0=lC D B p:=by rw[F];rfl
 obtain⟨res,K⟩:=aP (lC D B p);rw[<-K]at a|-
 rw[<-F]at hl|-
 clear F K;go_enter func191,ntmps191;go_wp2_with fail;obtain⟨box,y⟩:=aP (Obj.cells #[.map (some mb), .int .i64 (longest:Nat)] 123);have l:=lV.vU hF box;have H:=l.feed _ _ _ _ hF;have Z:=hT.step l.step P;have W:=hS.step l.step L;have Y:(w.alloc box).heap[w.heap.size]? =some (.cells #[.map (some mb), .int .i64 (longest:Nat)] 123 (0,0)):=by rw[y];exact aR _ _
 have R:w.heap.size≠f:=by omega
 rw[<-y];generalize aj:w.alloc box=w1 at*;go_loopw [6,11] (fun c i wr=>∃j:Nat,j<=longest/\i= .int .i64 (j:Nat)/\c= .int .u32 (bU B p j:Nat)/\p+j<=8*B.length/\jN D B p (longest-j) j=res/\lV f w1 wr (p+j)) (fun _ i _=>longest-(intOf i).toNat);case atStart=>exact⟨0,by omega,rfl,rfl,hp,a,lV.refl H⟩
 case round=>
  obtain⟨j,hj,rfl,rfl,ai,a,d⟩:=hrel;by_cases al:j<longest
  ·rw[show longest-j=(longest-(j+1))+1 by omega,jN]at a;by_cases k:p+j<8*B.length
   ·rw[aA k]at a;have ag:=G6 B p j (by omega);have N:=G6 B p (j+1) (by omega);have T:=kQ B (p+j);go_wp2_with fail;apply(sW f g off cap z (p+j) B wr (d.feed _ _ _ _ H) (W.step d.step L) (by omega)).mono;rintro e w2 ⟨rfl,I⟩;have b:=d.trans I;obtain⟨af,_,_,_⟩:=gB (b.step.at_ Y R);obtain⟨n,DD,hn,C,X⟩:=Z.step b.step P;have aa:bits BinOp.or IntKind.u32 ((bU B p j:Int)*2) (bK B (p+j):Int)=((bU B p (j+1):Nat):Int):=by
     have:=MZ (2*bU B p j) (bK B (p+j)) (by omega) (by omega);rw[a98 _ _ T]at this;rw[Int.mul_comm];exact this
    have q:=X (bU B p (j+1));obtain⟨Q,u⟩:=aP (bU B p (j+1));have a:=a;rw[<-u]at aa N q a;have S:=hide u;have A:(Lit.int IntKind.u32 (Q:Int)).wf=true:=WalkArith.wf_u32 (by omega);cases hM:D.tab Q with
    |none=>
     rw[hM]at a;have ab:=q.2 hM;have a:=hide a;clear u X q hM;have ak:True:=bT;go_wp2_with (first|(at_lookup;refine OJ _ rfl _ _ 121 rfl 198 3 .i64 U2 underlying121 underlying3 (OC _) mb n DD rfl C _ (.int .u32 (Q:Int)) rfl (keyOf_int_mk underlying198 A) ?_;intro c v G;clear v G));go_roundw;case rel=>exact⟨j+1,by omega,by go_num,by rw[S.o],by omega,a,b⟩
     case measure=>simp[intOf];omega
    |some s=>
     rw[hM]at a;have J:=q.1 s hM;obtain⟨ae,M⟩:=J;clear u X q hM;go_wp2_with (first|(at_lookup;refine OJ _ rfl _ _ 121 rfl 198 3 .i64 U2 underlying121 underlying3 (OC _) mb n DD rfl C _ (.int .u32 (Q:Int)) rfl (keyOf_int_mk underlying198 A) ?_;intro c v G;have ah:c=(s:Int):=(by have h3:=v.symm.trans M;simpa using h3);clear v G));go_ret2;rw[<-a];exact⟨rfl,l.trans b⟩
   ·rw[aB k]at a;go_wp2_with fail;apply(yN f B.length cap (p+j) (bE g off B.length) wr (d.feed _ _ _ _ H) hm (by omega) (by omega)).mono;rintro e w2 ⟨rfl,m,rfl⟩;have r:lV f w (wr.drewN m) (p+j):=l.trans ⟨d.step.drewN m,fun s x z' t hx=>d.feed s x z' t hx⟩;go_wp2_with fail;rw[<-a];exact⟨rfl,rfl,_,r⟩
  ·have:j=longest:=(by omega);subst this;rw[uL,jN]at a;have r:=hide (l.trans d);go_wp2_with fail;go_ret2;rw[<-a];exact⟨rfl,_,r.o⟩
def LP (r:R (Nat×Nat))(f:Nat)(w:aH)(e:Ending)(w':aH):Prop:=
 match r with
 | .ok lt q=>e= .returned (.tuple #[nat lt.1,nat lt.2])/\lV f w w' q
 | .no _=>False
 | .miss=>e=lost/\∃q,lV f w w' q
def JW {w1:aH}(h:lV f w.drew w1 p):lV f w w1 p:=⟨(aU (·=f) w).drew.trans h.step,fun s x b t a=>h.feed s x b t a⟩
def yR (f g off cap z q a l k:Nat)(B:aD)(w:aH)(s:w.heap[f]? =some (.cells #[.slice (bE g off B.length) B.length cap,V q,V z] 91 (0,0)))(t:Src w g off B)(o:g≠f)(hk:k<=20)(A:l<=100)(b:q+k<=8*B.length):Calls prog 224 #[.agg #[nat a,nat l,nat k],E f] w fun e w'=>e= .returned (nat (l+aG B q k))/\lV f w w' (q+k):=by
 have d:=lV.vU s (.cells #[nat a,nat l,nat k] 258);have c:=dO f g off cap z q k B (w.alloc (.cells #[nat a,nat l,nat k] 258)).drew (d.feed _ _ _ _ s) ((t.step d.step o).step ((aU (fun _=>False) _).drew) (fun x=>x)) o (by omega) b;have r:=bO B q k;have hp:2^k<=2^20:=gL (by omega) hk;obtain⟨m,y⟩:=aP (aG B q k);rw[<-y]at c r|-
 have u:IntKind.i64.wrap ((l:Int)+(m:Int))=((l+m:Nat):Int):=by rw[dK];omega
 have v:=aO s;clear s t y r hp;go_enter func224,ntmps224;go_wp2_with fail;have j:(w.alloc (.cells #[nat a,nat l,nat k] 258)).heap[w.heap.size]? =some (.cells #[nat a,nat l,nat k] 258 (0,0)):=aR _ _;generalize w.alloc (.cells #[nat a,nat l,nat k] 258)=w1 at*;have c1:=(show w1.cell? (U w.heap.size 1)=some (nat l) from aC j 1 _ rfl)
 have c2:=(show w1.cell? (U w.heap.size 2)=some (nat k) from aC j 2 _ rfl)
 clear j;have n:¬(w.heap.size=f):=by omega
 go_region_held3 (fun w'=>w'.cell? (U w.heap.size 1)=some (nat l)/\w'.cell? (U w.heap.size 2)=some (nat k)) (go_keep)
  (first|(go_at_call 119;apply c.mono;rintro e w2 ⟨rfl,i⟩;have k1:=i.step.cell (p:=(U w.heap.size 1)) c1 n;have k2:=i.step.cell (p:=(U w.heap.size 2)) c2 n))
 all_goals
  go_wp2_with fail;go_ret;exact⟨rfl,d.trans (JW i)⟩
def vN (f g off cap z q a l k:Nat)(B:aD)(w:aH)(n:w.heap[f]? =some (.cells #[.slice (bE g off B.length) B.length cap,V q,V z] 91 (0,0)))(r:Src w g off B)(j:g≠f)(o:q<=8*B.length)(hk:k<=20)(b:8*B.length<q+k):Calls prog 224 #[.agg #[nat a,nat l,nat k],E f] w fun e w'=>e=lost/\∃q',lV f w w' q':=by
 have c:=lV.vU n (.cells #[nat a,nat l,nat k] 258);have d:=dL f g off cap z q k B (w.alloc (.cells #[nat a,nat l,nat k] 258)).drew (c.feed _ _ _ _ n) ((r.step c.step j).step ((aU (fun _=>False) _).drew) (fun x=>x)) j (by omega) o b;go_enter func224,ntmps224;go_wp2_with fail;have i:(w.alloc (.cells #[nat a,nat l,nat k] 258)).heap[w.heap.size]? =some (.cells #[nat a,nat l,nat k] 258 (0,0)):=aR _ _;generalize w.alloc (.cells #[nat a,nat l,nat k] 258)=w1 at*;have c1:=(show w1.cell? (U w.heap.size 1)=some (nat l) from aC i 1 _ rfl)
 have c2:=(show w1.cell? (U w.heap.size 2)=some (nat k) from aC i 2 _ rfl)
 go_region_dies;all_goals
  apply d.mono;rintro e w2 ⟨rfl,m⟩;exact⟨rfl,rfl,_,c.trans (JW m)⟩
def NR (f g off cap z q s C n:Nat)(row B:aD)(w:aH)(t:w.heap[f]? =some (.cells #[.slice (bE g off B.length) B.length cap,V q,V z] 91 (0,0)))(r:Src w g off B)(j:g≠f)(I:q<=8*B.length)(m:s=16->0<row.length/\row.length<=400/\w.cell? ⟨C,row.length-1,none⟩=some (nat (row[row.length-1]?.getD 0)))(K:C≠f)(X:s<19)(Q:bL w)(Z:4<=f):Calls prog 219 #[E f,V s, .slice (some (U C 0)) row.length n] w fun e w'=>LP (fO B q s row) f w e w':=by
 have hm:=r.much;obtain⟨m0,m1,m2⟩:=Q.many;obtain⟨n0,n1,n2⟩:=Q.few;obtain⟨a0,a1,a2⟩:=Q.again;by_cases y:s<16
 ·have i:fO B q s row= .ok (s,1) q:=by unfold fO;rw[aA y]
  have W:((s:Int)==16)=false:=aX.2 (by omega);have S:((s:Int)==17)=false:=aX.2 (by omega);have Y:((s:Int)==18)=false:=aX.2 (by omega);have D:=hide (lV.refl t);go_enter func219,ntmps219;go_wp2_with fail;go_ret2;rw[i];exact⟨rfl,D.o⟩
 ·by_cases L:s=16
  ·subst L;obtain⟨R,T,G⟩:=m rfl;obtain⟨x,F⟩:=aP (row[row.length-1]?.getD 0);have A:((row.length:Int)-1)=((row.length-1:Nat):Int):=(by omega);rw[<-F]at G;obtain⟨k,hk⟩:=aP (row.length-1);obtain⟨l,H⟩:=aP row.length;by_cases a:q+2<=8*B.length
   ·have i:fO B q 16 row= .ok (x,aG B q 2+3) (q+2):=(by unfold fO;rw[aB (by omega),aA rfl,aA a,F]);have d:=yR f g off cap z q 16 3 2 B w.drew t (r.step ((aU (fun _=>False) w).drew) (fun x=>x)) j (by omega) (by omega) a;rw[<-hk]at A G;rw[<-H]at A T|-
    have P:IntKind.i64.wrap ((l:Int)-1)=(k:Int):=(by rw[dK];omega);have M:(0:Int)<=(k:Int):=(by omega);have N:(k:Int)<(l:Int):=(by omega);have u:¬(3=f):=(by omega);clear m F hk H R A;go_enter func219,ntmps219;go_wp2_with fail
    go_region_held3 (fun w'=>w'.cell? (U C k)=some (nat x)/\w'.cell? ⟨3,0,none⟩=some (V 16)/\w'.cell? ⟨3,1,none⟩=some (V 3)/\w'.cell? ⟨3,2,none⟩=some (V 2)) (go_keep)
     (first|(go_at_call 224;apply d.mono;rintro e w2 ⟨rfl,b⟩;have k1:=b.step.cell (p:=(U C k)) G K;have k2:=b.step.cell (p:=⟨3,0,none⟩) a0 u;have k3:=b.step.cell (p:=⟨3,1,none⟩) a1 u;have k4:=b.step.cell (p:=⟨3,2,none⟩) a2 u))
    all_goals
     go_wp2_with fail;go_ret2;rw[i,Nat.add_comm];exact⟨rfl,JW b⟩
   ·have i:fO B q 16 row= .miss:=(by unfold fO;rw[aB (by omega),aA rfl,aB a]);have d:=vN f g off cap z q 16 3 2 B w.drew t (r.step ((aU (fun _=>False) w).drew) (fun x=>x)) j I (by omega) (by omega);have HN:=hide d;have HR:=hide i;rw[<-hk]at A G;rw[<-H]at A T|-
    have P:IntKind.i64.wrap ((l:Int)-1)=(k:Int):=(by rw[dK];omega);have M:(0:Int)<=(k:Int):=(by omega);have N:(k:Int)<(l:Int):=(by omega);clear i m F d hk H R A;go_enter func219,ntmps219;go_wp2_with fail;go_region_dies;all_goals
     apply HN.o.mono;rintro e w2 ⟨rfl,q',b⟩;refine⟨rfl,?_⟩;rw[HR.o];exact⟨rfl,_,JW b⟩
  ·by_cases v:s=17
   ·subst v;by_cases a:q+3<=8*B.length
    ·have i:fO B q 17 row= .ok (0,aG B q 3+3) (q+3):=(by unfold fO;rw[aB (by omega),aB (by omega),aA rfl,aA a]);go_enter func219,ntmps219;go_wp2_with fail;apply(yR f g off cap z q 17 3 3 B w t r j (by omega) (by omega) a).mono;rintro e w1 ⟨rfl,c⟩;go_wp2_with fail;go_ret2;rw[i,Nat.add_comm];exact⟨rfl,c⟩
    ·have i:fO B q 17 row= .miss:=(by unfold fO;rw[aB (by omega),aB (by omega),aA rfl,aB a]);go_enter func219,ntmps219;go_wp2_with fail;apply(vN f g off cap z q 17 3 3 B w t r j I (by omega) (by omega)).mono;rintro e w1 ⟨rfl,q',c⟩;go_wp2_with fail;rw[i];exact⟨rfl,rfl,_,c⟩
   ·have J:s=18:=(by omega);subst J;by_cases a:q+7<=8*B.length
    ·have i:fO B q 18 row= .ok (0,aG B q 7+11) (q+7):=(by unfold fO;rw[aB y,aB L,aB v,aA a]);go_enter func219,ntmps219;go_wp2_with fail;apply(yR f g off cap z q 18 11 7 B w t r j (by omega) (by omega) a).mono;rintro e w1 ⟨rfl,c⟩;go_wp2_with fail;go_ret2;rw[i,Nat.add_comm];exact⟨rfl,c⟩
    ·have i:fO B q 18 row= .miss:=(by unfold fO;rw[aB y,aB L,aB v,aB a]);go_enter func219,ntmps219;go_wp2_with fail;apply(vN f g off cap z q 18 11 7 B w t r j I (by omega) (by omega)).mono;rintro e w1 ⟨rfl,q',c⟩;go_wp2_with fail;rw[i];exact⟨rfl,rfl,_,c⟩
structure BQ (w wr:aH)(f R n p mb longest:Nat)(row:aD):Prop where
 own:wr.ownsRow (R+1) 3 1 (.slice (some ⟨R+1,0,none⟩) row.length n) row.length (TJ row)
 fed:lV f w wr p
 box:wr.heap[R]? =some (.cells #[.map (some mb),V (longest:Nat)] 123 (0,0))
def BQ.aA6 {wr w2:aH}{R n p2 mb longest:Nat}(h:BQ w wr f R n p mb longest row)(b:lV f wr w2 p2)(a:¬R=f)(d:f<R+1):BQ w w2 f R n p2 mb longest row:=⟨bX h.own (fun j c=>b.step.block j (h.own.lt j c).2 (fun x=>by have:=(h.own.lt j c).1;omega)),h.fed.trans b,b.step.at_ h.box a⟩
def BQ.last {wr:aH}{R n mb longest:Nat}(h:BQ w wr f R n p mb longest row)(b:0<row.length):wr.cell? ⟨R+1,row.length-1,none⟩=some (nat (row[row.length-1]?.getD 0)):=by have a:=h.own.cellAt (row.length-1) (by omega);rw[a];simp[bV (show row.length-1<row.length by omega)]
def aE1 (r:R (aD))(n f:Nat)(w:aH)(e:Ending)(w':aH):Prop:=
 match r with
 | .ok row q=>row.length=n/\∃RB,e= .returned (.tuple #[.slice (some (U RB 0)) n n,V 0])/\w.heap.size<=RB/\Ints w' RB 0 row/\lV f w w' q
 | .no x=>e= .returned (.tuple #[.slice none 0 0,V (x:Nat)])/\∃q,lV f w w' q
 | .miss=>e=lost/\∃q,lV f w w' q
def QH (D:d9)(B:aD)(p:Nat):∀r j e,jN D B p r j= .no e->e=9:=by
 intro r;induction r with
 |zero=>intro j e h;simp only[jN,R.no.injEq]at h;exact h.symm
 |succ r ih=>
  intro j e h;rw[jN]at h;split at h
  ·split at h
   ·simp at h
   ·exact ih _ _ h
  ·simp at h
def oU {D:d9}{e:Nat}(h:lC D B p= .no e):e=9:=QH D B p _ _ _ h
def J3 {q s e:Nat}(h:fO B q s row= .no e):False:=by
 unfold fO at h;split at h
 ·simp at h
 ·split at h
  ·split at h<;>simp at h
  ·split at h<;>split at h<;>simp at h
def ab1 {q s:Nat}{lt:Nat×Nat}{q':Nat}(h:fO B q s row= .ok lt q')(a:∀i:Nat,row[i]?.getD 0<=15):lt.1<=15/\lt.2<=138:=by
 unfold fO at h;split at h
 ·simp only[R.ok.injEq]at h;obtain⟨rfl,rfl⟩:=h;exact⟨by dsimp only;omega,by simp⟩
 ·split at h
  ·split at h
   ·have:=bO B q 2;simp only[R.ok.injEq]at h;obtain⟨rfl,rfl⟩:=h;exact⟨a _,by dsimp only;omega⟩
   ·simp at h
  ·split at h
   ·split at h
    ·have:=bO B q 3;simp only[R.ok.injEq]at h;obtain⟨rfl,rfl⟩:=h;exact⟨by simp,by dsimp only;omega⟩
    ·simp at h
   ·split at h
    ·have:=bO B q 7;simp only[R.ok.injEq]at h;obtain⟨rfl,rfl⟩:=h;exact⟨by simp,by dsimp only;omega⟩
    ·simp at h
def zX (row:aD)(t l:Nat)(a:∀i:Nat,row[i]?.getD 0<=15)(b:l<=15):∀i:Nat,(row++List.replicate t l)[i]?.getD 0<=15:=by
 intro i;by_cases hi:i<row.length
 ·rw[jA hi];exact a i
 ·rw[kZ (by omega)];by_cases c:i-row.length<t
  ·simp[c,b]
  ·rw[fZ (by simp;omega)];simp
def Gz (f g off cap z n mb p:Nat)(D:d9)(B:aD)(w:aH)(hF:w.heap[f]? =some (.cells #[.slice (bE g off B.length) B.length cap,V p,V z] 91 (0,0)))(hS:Src w g off B)(Q:g≠f)(hT:TabAt w mb D.tab)(aq:mb≠f)(hl:D.longest<=15)(hp:p<=8*B.length)(bl:n<=400)(ap:∀c s,D.tab c=some s->s<19)(hO:bL w)(aw:4<=f):Calls prog 213 #[E f, .agg #[.map (some mb),V D.longest],V n] w fun e w'=>aE1 (NM D B n p) n f w e w':=by
 obtain⟨i0,hi,ba,al,bb⟩:=eD info3;have HF:=hide hF;have be:=aO hF;obtain⟨res,Z⟩:=aP (NM D B n p);have ao:=hide (show iC D B n n p []=res by rw[Z];rfl);have ay:=hide ap;rw[<-Z];clear hF Z ap;go_enter func213,ntmps213;go_wp2_with (at_make;refine wpList_make_own _ rfl _ _ 57 rfl (w.heap.size+1) 3 i0 (V 0) 1 underlying57 hi ba al .i64 .i64 _ n rfl rfl rfl (by rw[bb];omega) (by unfold maxLen;omega) (by simp) ?_;intro w1 M I);obtain⟨R,hR⟩:=aP w.heap.size;have H:w1.ownsRow (R+1) 3 1 (.slice (some ⟨R+1,0,none⟩) 0 n) 0 (TJ []):=by
  rw[hR];simpa using M
 have h0:BQ w w1 f R n p mb D.longest []:=by
  refine⟨H,?_,?_⟩
  ·have h1:=lV.vU HF.o (.cells #[.map (some mb),V D.longest] 123);refine⟨h1.step.grown I (fun k hk=>by cases hk),fun s x z' t hx=> ?_⟩;exact(I.block f (by simp;omega) (by simp)).trans (h1.feed s x z' t hx)
  ·rw[hR];exact(I.block _ (by simp) (by simp)).trans (aR _ _)
 have af:¬R=f:=by omega
 have ah:R+1≠f:=by omega
 have bh:f<R:=by omega
 have bj:w.heap.size<=R:=by omega
 have bn:mb<R+1:=by have:=hT.lt;omega
 have bc:mb≠R:=by have:=hT.lt;omega
 rw[<-hR];clear M H I hR;go_loopw [8] (fun v wr=>∃(row:aD) (k p:Nat),row.length<=n/\n<=row.length+k/\p<=8*B.length/\(∀i:Nat,row[i]?.getD 0<=15)/\iC D B n k p row=res/\v= .slice (some ⟨R+1,0,none⟩) row.length n/\BQ w wr f R n p mb D.longest row) (fun v _=>n-Xp v);case atStart=>exact⟨[],n,p,by simp,by simp,hp,by simp,ao.o,rfl,h0⟩
 case round=>
  clear h0 ao;obtain⟨row,k,q,hk,bg,hq,ak,a,rfl,hrel⟩:=hrel;have Y:=hide ak;clear ak;by_cases av:row.length<n
  ·obtain⟨k,rfl⟩:∃j,k=j+1:=⟨k-1,by omega⟩
   rw[iC,aB (by omega)]at a;obtain⟨b0,b1,_,_⟩:=gB hrel.box;have C:=BM f g off cap z q mb D B wr (hrel.fed.feed _ _ _ _ HF.o) (hS.step hrel.fed.step Q) Q (hT.step hrel.fed.step aq) aq hl hq;have L:=hide hrel;obtain⟨len,y⟩:=aP row.length;rw[<-y]at hk av|-
   have b:=hide y;clear hrel y;cases hs:lC D B q with
   |no x=>
    have hx:=oU hs;subst hx;rw[hs]at C a;have K:=hide C;have A:=hide a;clear C a hs;go_wp2_with fail;apply K.o.mono;rintro e w2 ⟨rfl,q2,d⟩;have r:=hide (L.o.fed.trans d);clear d;go_wp2_with fail;go_ret2;rw[<-A.o];exact⟨rfl,_,r.o⟩
   |miss=>
    rw[hs]at C a;have K:=hide C;have A:=hide a;clear C a hs;go_wp2_with fail;apply K.o.mono;rintro e w2 ⟨rfl,q2,d⟩;have r:=hide (L.o.fed.trans d);clear d;go_wp2_with fail;rw[<-A.o];exact⟨rfl,rfl,_,r.o⟩
   |ok s q1=>
    have ab:=oV hs;rw[hs]at C a;have am:=ay.o _ _ ab.2.2.2;have an:q1<=8*B.length:=ab.2.1;have K:=hide C;have A:=hide a;clear C a hs ab;go_wp2_with fail;apply K.o.mono;rintro e w2 ⟨rfl,d⟩;have m:BQ w w2 f R n q1 mb D.longest row:=L.o.aA6 d af (by omega);have ai:=hO.step m.fed.step (fun k hk x=>by omega);have ga:=ai.again.1;by_cases ar:s=16/\len=0
    ·obtain⟨ae,S⟩:=ar;subst ae;subst S;have r:=hide m.fed;go_wp2_with fail;go_ret2;have a:=A.o;rw[aA (by rw[<-b.o];simp)]at a;rw[<-a];exact⟨rfl,_,r.o⟩
    ·have a:=A.o;rw[aB (by rw[<-b.o];exact ar)]at a;have P:=NR f g off cap z q1 s (R+1) n row B w2 (m.fed.feed _ _ _ _ HF.o) (hS.step m.fed.step Q) Q an (fun h=>by
      have S:0<row.length:=(by have:=b.o;omega);exact⟨S,by have:=b.o;omega,m.last S⟩) ah am ai aw
     rw[<-b.o]at P;have ad:((s:Int)==16)=false\/(((s:Int)==16)=true/\((len:Int)==0)=false):=by
      by_cases bk:s=16
      ·exact .inr ⟨dI.2 (by omega),aX.2 (by omega)⟩
      ·exact .inl (aX.2 (by omega))
     rcases ad with au|⟨au,bf⟩
     all_goals
      cases hle:fO B q1 s row with
      |no x=>exact(J3 hle).elim
      |miss=>
       rw[hle]at P a;go_wp2_with fail;apply P.mono;rintro e w3 ⟨rfl,q3,G⟩;have r:=hide (m.fed.trans G);go_wp2_with fail;rw[<-a];exact⟨rfl,rfl,_,r.o⟩
      |ok lt q2=>
       have ag:=TW hle an;have T:=ab1 hle Y.o;rw[hle]at P a;obtain⟨l,t⟩:=lt;dsimp only at ag T;go_wp2_with fail;apply P.mono;rintro e w3 ⟨rfl,G⟩;dsimp only;have N:BQ w w3 f R n q2 mb D.longest row:=m.aA6 G af (by omega);have a:=a;by_cases W:n<len+t
       ·rw[aA (by rw[<-b.o];exact W)]at a;have r:=hide N.fed;go_wp2_with fail;go_ret2;rw[<-a];exact⟨rfl,_,r.o⟩
       ·rw[aB (by rw[<-b.o];exact W)]at a;go_wp2_with fail;go_loopw [8,51] (fun v i wr=>∃j:Nat,j<=t/\i=V (j:Nat)/\v= .slice (some ⟨R+1,0,none⟩) (len+j) n/\BQ w wr f R n q2 mb D.longest (row++List.replicate j l)) (fun _ i _=>t-(intOf i).toNat);case atStart=>exact⟨0,by omega,rfl,rfl,by simpa using N⟩
        case round=>
         obtain⟨j,hj,rfl,rfl,hrel⟩:=hrel;have F:(row++List.replicate j l).length=len+j:=(by simp[b.o]);by_cases bm:j<t
         ·have X:=hrel.own;rw[F]at X;go_wp2_with (at_builtin;refine PD _ rfl _ _ 57 rfl (R+1) 3 i0 1 underlying57 hi al (R+1) (len+j) n (TJ (row++List.replicate j l)) rfl (X.alloc _) (U wr.heap.size 0) 1 1 [V (l:Nat)] rfl rfl ?d1 ?d2 (by omega) ?_);case d1=>
           intro j u hj;match j,hj with
           |0,hj=>simp at hj;subst hj;simp[Addr.add]
          case d2=>intro u hu;simp at hu;subst hu;rfl
          intro w4 aa J;have ac:BQ w w4 f R n q2 mb D.longest (row++List.replicate (j+1) l):=by
           have hw:=hrel;have e1:row++List.replicate (j+1) l=(row++List.replicate j l)++[l]:=(by rw[dB,<-OX]);refine⟨?_,⟨(hw.fed.step.alloc _).grown J (fun j hj=> .inr (by simp at hj;omega)),fun s x z' t hx=> ?_⟩,?_⟩
           ·have e2:TJ (row++List.replicate (j+1) l)=List.map (fun c=>V (c:Nat)) row++(List.replicate j (V (l:Nat))++[V (l:Nat)]):=(by simp[TJ,OX]);have e3:(row++List.replicate (j+1) l).length=len+j+1:=(by rw[e1,aN,F];rfl);rw[e2,e3];exact aa
           ·have h1:=hw.fed.feed s x z' t hx;exact(J.block f (by have:=aO h1;simp;omega) (by simp;omega)).trans ((dG _ _ _ (aO h1)).trans h1)
           ·exact(J.block R (by have:=aO hw.box;simp;omega) (by simp)).trans ((dG _ _ _ (aO hw.box)).trans hw.box)
          go_wp2_with fail;go_roundw;case rel=>exact⟨j+1,by omega,by go_num,by rw[iV],ac⟩
          case measure=>simp[intOf];omega
         ·have aj:j=t:=(by omega);subst aj;go_wp2_with fail;go_roundw;case rel=>exact⟨row++List.replicate j l,k,q2,by rw[F];omega,by rw[F];have:=b.o;omega,ag.2.1,zX row j l Y.o T.1,a,by rw[F],hrel⟩
          case measure=>simp[Xp];omega
  ·have y:row.length=n:=(by omega);have ax:res= .ok row q:=by
    rw[<-a];cases k with
    |zero=>rfl
    |succ k=>rw[iC,aA (by omega)]
   have b:=hide y;rw[y];go_wp2_with fail;go_ret2;rw[ax];refine⟨b.o,R+1,rfl,by omega,⟨fun i az=> ?_,Y.o,by have:=b.o;omega⟩,hrel.fed⟩;have h9:=hrel.own.cellAt i (by omega);rw[dS,h9];simp[bV az]
def ah3 (L:aD)(q f:Nat)(w:aH)(e:Ending)(w':aH):Prop:=
 if fF L=true then∃mb,e= .returned (.tuple #[.agg #[.map (some mb),V ((aI L).longest:Nat)],V 0])/\w.heap.size<=mb/\TabAt w' mb (aI L).tab/\lV f w w' q
 else e= .returned (.tuple #[.agg #[.map none,V 0],V 7])/\∃q,lV f w w' q
def PW (f g off cap z p c:Nat)(B:aD)(w:aH)(hF:w.heap[f]? =some (.cells #[.slice (bE g off B.length) B.length cap,V p,V z] 91 (0,0)))(hS:Src w g off B)(I:g≠f)(hp:p<=8*B.length)(hc:c<=19)(hO:bL w)(ai:4<=f):Calls prog 212 #[E f,V c] w fun e w'=>(p+3*c<=8*B.length/\ah3 (bD B p c) (p+3*c) f w e w')\/(8*B.length<p+3*c/\e=lost/\∃q,lV f w w' q):=by
  have X:=hide hF;have ae:=aO hF;go_enter func212,ntmps212;go_wp2_with fail;rw[aB5];obtain⟨R,hR⟩:=aP w.heap.size;have d:bA ((w.alloc (.cells #[.map none,V 0] 123)).alloc (.cells (Array.replicate 19 (V 0)) 216)) (R+1) 216 19 (fun i=>V (wI B p 0 i:Nat)):=by
    have:=bA.born (w.alloc (.cells #[.map none,V 0] 123)) (A:=Array.replicate 19 (V 0)) (n:=19) (f:=fun i=>V (wI B p 0 i:Nat)) 216 (by simp) (fun i hi=>by simp[hi,wI]);rw[hR];simpa using this
  have m:((w.alloc (.cells #[.map none,V 0] 123)).alloc (.cells (Array.replicate 19 (V 0)) 216)).heap[R]? =some (.cells #[.map none,V 0] 123 (0,0)):=by
    rw[hR];exact(dG _ _ _ (by simp)).trans (aR _ _)
  have ad:lV f w ((w.alloc (.cells #[.map none,V 0] 123)).alloc (.cells (Array.replicate 19 (V 0)) 216)) p:=by
    have h1:=lV.vU X.o (.cells #[.map none,V 0] 123);exact h1.trans (lV.vU (h1.feed _ _ _ _ X.o) _)
  have D:¬R=f:=by omega
  have u:¬R+1=f:=by omega
  have J:w.heap.size<=R:=by omega
  rw[<-hR];generalize(w.alloc (.cells #[.map none,V 0] 123)).alloc (.cells (Array.replicate 19 (V 0)) 216)=w1 at*;clear hR;go_loopw [9] (fun i wr=>∃k:Nat,k<=c/\p+3*k<=8*B.length/\i=V (k:Nat)/\lV f w wr (p+3*k)/\bA wr (R+1) 216 19 (fun i=>V (wI B p k i:Nat))/\wr.heap[R]? =some (.cells #[.map none,V 0] 123 (0,0))) (fun i _=>c-(intOf i).toNat);case atStart=>exact⟨0,by omega,by omega,rfl,ad,d,m⟩
  case round=>
    obtain⟨k,hk,M,rfl,a,d,m⟩:=hrel;by_cases ah:k<c
    . have W:=hO.step a.step (fun k hk x=>by omega)
      have P:=W.order k (by omega)
      have N:=Dt k
      obtain⟨q,hq⟩:=aP (bP[k]?.getD 0)
      rw[<-hq]at P N
      have af:((q:Nat):Int)<19:=by omega
      have am:((k:Nat):Int)<19:=by omega
      have ag:(0:Int)<=((k:Nat):Int):=by omega
      have al:(0:Int)<=((q:Nat):Int):=by omega
      have cq:=d.cell q N
      have fq:=d.free q
      have HQ:=hide hq
      by_cases Z:p+3*k+3<=8*B.length
      . have r:=dO f g off cap z (p+3*k) 3 B wr.drew (a.feed _ _ _ _ X.o) ((hS.step a.step I).step ((aU (fun _=>False) wr).drew) (fun x=>x)) I (by omega) (by omega)
        have T:=hide r
        have ac:=hide m
        clear hq r m W
        go_wp2_with fail
        refine wp_region_noPanic ?_
        go_region_held3 (fun w'=>w'.cell? ⟨0,k,none⟩=some (V (q:Nat))) (go_keep)
          (first|(go_at_call 119;apply T.o.mono;rintro e w2 ⟨rfl,b⟩;have k1:=b.step.cell (p:=⟨0,k,none⟩) P (by show¬(0=f);omega);have k2:=(d.drew.step b.step u).cell q N;have k3:=(d.drew.step b.step u).free q))
        all_goals
          refine NoPanic.normal ?_;have ab:bA (w2.setCell ⟨R+1,q,none⟩ (V (aG B (p+3*k) 3:Nat))) (R+1) 216 19 (fun i=>V (wI B p (k+1) i:Nat)):=by
            refine((d.drew.step b.step u).set q (V (aG B (p+3*k) 3:Nat))).congr fun i _=> ?_;rw[wI,<-HQ.o];by_cases hi:i=q<;>simp[hi]
          have Y:(w2.setCell ⟨R+1,q,none⟩ (V (aG B (p+3*k) 3:Nat))).heap[R]? =some (.cells #[.map none,V 0] 123 (0,0)):=
            (cZ _ _ _ _ (by simp)).trans (b.step.at_ (w:=wr.drew) ac.o D)
          have S:lV f w (w2.setCell ⟨R+1,q,none⟩ (V (aG B (p+3*k) 3:Nat))) (p+3*k+3):=by
            have h1:lV f wr w2 (p+3*k+3):=⟨(aU (·=f) wr).drew.trans b.step,fun s x H t C=>b.feed s x H t C⟩
            have L:=a.trans h1;exact⟨L.step.aZ (by simp;omega) _,fun s x H t C=>(cZ _ _ _ _ (fun e=>u e.symm)).trans (L.feed s x H t C)⟩
          have H2:=hide Y;clear Y b k1 k2 k3 cq fq P;go_wp2_with fail;go_roundw;case rel=>exact⟨k+1,by omega,by omega,by go_num,S,ab,H2.o⟩
          case measure=>simp[intOf];omega
      . have r:=dL f g off cap z (p+3*k) 3 B wr.drew (a.feed _ _ _ _ X.o) ((hS.step a.step I).step ((aU (fun _=>False) wr).drew) (fun x=>x)) I (by omega) M (by omega)
        have j:=hide a
        go_wp2_with fail
        go_region_dies
        all_goals
          apply r.mono;rintro e w2 ⟨rfl,b⟩;refine⟨rfl, .inr ⟨by omega,rfl,_,j.o.trans ⟨(aU (·=f) wr).drew.trans b.step,fun s x H t C=>b.feed s x H t C⟩⟩⟩
    . have:k=c:=by omega
      subst this
      have F:Ints wr (R+1) 0 (bD B p k):=⟨fun i hi=>by
          rw[jD]at hi;rw[EZ _ _ _ _ hi,dS];exact d.cell i hi,Z8 B p k,by rw[jD];omega⟩
      have HI:=hide F
      have j:=hide a
      have Q:∀w3,O wr w3->lV f w w3 (p+3*k):=fun w3 l=>j.o.trans ⟨l.mono (fun _ x=>x.elim),fun s x H t C=>by
            have h9:=j.o.feed _ _ _ _ X.o;rw[h9]at C;cases C;exact l.at_ h9 (fun x=>x)⟩
      clear F a d
      go_wp2_with fail
      by_cases y:fF (bD B p k)=true
      . have G:=vD (R+1) 0 19 (bD B p k) wr HI.o y
        rw[jD]at G
        apply G.mono
        rintro e w3 ⟨mb,rfl,aj,K,l⟩
        obtain⟨r0,r1,rf0,rf1⟩:=gB (l.at_ m (fun x=>x))
        have ak:=aO m
        have HT:=hide K
        clear K
        go_wp2_with fail
        refine aY (v:= .tuple #[.agg #[.map (some mb),V ((aI (bD B p k)).longest:Nat)],V 0]) (by simp[results,results212,go_sem,r0,r1]) rfl (.inl ⟨M,?_⟩)
        unfold ah3
        rw[aA y]
        refine⟨mb,rfl,?_,?_,?_⟩
        . have:=j.o.step.size;omega
        . exact HT.o.of ((cZ _ _ _ _ (by simp;omega)).trans (cZ _ _ _ _ (by simp;omega)))
        . have L:=Q _ l
          exact⟨(L.step.aZ (by simpa using J) _).aZ (by simpa using J) _,fun s x H t C=>(cZ _ _ _ _ (fun e=>D e.symm)).trans ((cZ _ _ _ _ (fun e=>D e.symm)).trans (L.feed s x H t C))⟩
      . have G:=LJ (R+1) 0 19 (bD B p k) wr HI.o (by simpa using y)
        rw[jD]at G
        apply G.mono
        rintro e w3 ⟨rfl,l⟩
        obtain⟨r0,r1,rf0,rf1⟩:=gB (l.at_ m (fun x=>x))
        have aa:=hide l
        go_wp2_with fail
        refine aY (v:= .tuple #[.agg #[.map none,V 0],V 7]) (by simp[results,results212,go_sem,r0,r1]) rfl (.inl ⟨M,?_⟩)
        unfold ah3
        rw[aB y]
        refine⟨rfl,p+3*k,?_⟩
        have L:=Q _ aa.o
        exact⟨(L.step.aZ (by simpa using J) _).aZ (by simpa using J) _,fun s x H t C=>(cZ _ _ _ _ (fun e=>D e.symm)).trans ((cZ _ _ _ _ (fun e=>D e.symm)).trans (L.feed s x H t C))⟩
end Go.Proofs.YtbpahojchgpdnaaGreatDoor
