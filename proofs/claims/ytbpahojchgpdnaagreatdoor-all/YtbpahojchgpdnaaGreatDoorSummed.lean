import Derived.Deep.LoopGhost
import Derived.Test.YtbpahojchgpdnaaGreatDoorFrame
set_option maxRecDepth 20000
set_option maxHeartbeats 4000000
set_option linter.all false
namespace Go.dM
open Go Go.RowKit
variable {xs:aD}
def uD (p:Nat×Nat)(x:Nat):Nat×Nat:=((p.1+x)%65521,(p.2+(p.1+x)%65521)%65521)
def eH (p:Nat×Nat)(xs:aD):Nat×Nat:=xs.foldl uD p
def dZ (s:Nat)(xs:aD):Nat:=65536*(eH (s%65536,s/65536) xs).2+(eH (s%65536,s/65536) xs).1
def NH (p:Nat×Nat)(xs:aD)(x:Nat):eH p (xs++[x])=uD (eH p xs) x:=by simp[eH]
def E8 (p:Nat×Nat)(a:p.1<65536)(b:p.2<65536)(xs:aD):(eH p xs).1<65536/\(eH p xs).2<65536:=by
 induction xs generalizing p with
 |nil=>exact⟨a,b⟩
 |cons x r ih=>
  show(eH (uD p x) r).1<65536/\(eH (uD p x) r).2<65536;exact ih _ (by unfold uD;dsimp only;omega) (by unfold uD;dsimp only;omega)
def vB (s:Nat)(h:s<4294967296)(xs:aD):dZ s xs<4294967296:=by obtain⟨a,b⟩:=E8 (s%65536,s/65536) (by dsimp only;omega) (by dsimp only;omega) xs;unfold dZ;omega
def sJ (c:Nat):Nat:=c/2^^^c%2*3988292384
def nP:Nat->Nat->Nat
 |0,c=>c
 |n+1,c=>sJ (nP n c)
def YU (c x:Nat):Nat:=nP 8 (c^^^x)
def gJ (c:Nat)(xs:aD):Nat:=xs.foldl YU c
def aL (c:Nat)(xs:aD):Nat:=4294967295-gJ (4294967295-c) xs
def Tj (c:Nat)(h:c<4294967296):sJ c<4294967296:=by
 have:sJ c<2^32:=by
  unfold sJ;refine Nat.xor_lt_two_pow (by omega) ?_;exact JC (mZ 3988292384 (show c%2<=1 by omega)) (by decide)
 omega
def F9 (n c:Nat)(h:c<4294967296):nP n c<4294967296:=by
 induction n with
 |zero=>exact h
 |succ n ih=>exact Tj _ ih
def L9 (c x:Nat)(h:c<4294967296)(a:x<256):c^^^x<4294967296:=by have:c^^^x<2^32:=Nat.xor_lt_two_pow (by omega) (by omega);omega
def Kj (c x:Nat)(h:c<4294967296)(a:x<256):YU c x<4294967296:=F9 _ _ (L9 c x h a)
def JA (c:Nat)(xs:aD)(x:Nat):gJ c (xs++[x])=YU (gJ c xs) x:=by simp[gJ]
def QZ (c:Nat)(xs ys:aD):gJ c (xs++ys)=gJ (gJ c xs) ys:=by simp[gJ]
def FD (c:Nat)(xs:aD)(h:c<4294967296)(a:∀x∈xs,x<256):gJ c xs<4294967296:=by
 induction xs generalizing c with
 |nil=>exact h
 |cons x r ih=>exact ih _ (Kj c x h (a x (by simp))) (fun y b=>a y (by simp[b]))
def iW (c:Nat)(xs:aD):aL c xs<4294967296:=by unfold aL;omega
def vR (c:Nat)(xs ys:aD)(a:∀x∈xs,x<256):aL c (xs++ys)=aL (aL c xs) ys:=by have h:=FD (4294967295-c) xs (by omega) a;unfold aL;rw[QZ,show 4294967295-(4294967295-gJ (4294967295-c) xs)=gJ (4294967295-c) xs by omega]
def Ns (c:Nat)(h:c%2=1):sJ c=c/2^^^3988292384:=by unfold sJ;rw[h,wJ]
def Gu (c:Nat)(h:¬c%2=1):sJ c=c/2:=by unfold sJ;rw[show c%2=0 by omega,Nat.zero_mul,Nat.xor_zero]
end Go.dM
namespace Go.Proofs.YtbpahojchgpdnaaGreatDoor
open Go.RowKit Go.dM Go.Proofs.Tryz
variable {xs:aD}
def tZ (w:aH)(v:aK)(ys:aD):Prop:=
 (∃a c,v= .slice a 0 c/\ys=[])\/∃k off cap,v= .slice (some (U k off)) ys.length cap/\nI w k off ys
def N7 (s:Nat)(v:aK)(ys:aD)(w:aH)(hs:s<4294967296)(j:tZ w v ys)(t:∀y∈ys,y<256)(g:ys.length<=140737488355328):Calls prog 92 #[.int .u32 (s:Nat),v] w fun r w'=>r= .returned (.int .u32 (dZ s ys:Nat))/\w'=w:=by
 have p:((s:Int)).tmod 65536=((s%65536:Nat):Int):=by rw[P7 (by omega)];omega
 have q:((s:Int)).tdiv 65536=((s/65536:Nat):Int):=by rw[Int.tdiv_eq_ediv_of_nonneg (by omega)];omega
 obtain⟨u,D,d⟩:∃a c,v= .slice a ys.length c:=by
  rcases j with⟨a,c,rfl,rfl⟩|⟨k,off,cap,rfl,_⟩
  ·exact⟨a,c,rfl⟩
  ·exact⟨_,_,rfl⟩
 rw[d];go_enter func92,ntmps92;go_wp2_with fail;go_loopg [5,6,8,15] ys.length (fun k u5 u6 u8 u15 wr=>∃i:Nat,u15=V i/\k+i=ys.length/\u5= .int .u32 ((eH (s%65536,s/65536) (ys.take i)).1:Nat)/\u6= .int .u32 ((eH (s%65536,s/65536) (ys.take i)).2:Nat)/\wr=w);case atStart=>exact⟨0,rfl,by omega,by simp[eH],by simp[eH],rfl⟩
 case round=>
  obtain⟨i,rfl,hk,rfl,rfl,rfl⟩:=hrel;obtain⟨b1,b2⟩:=E8 (s%65536,s/65536) (by dsimp only;omega) (by dsimp only;omega) (ys.take i);by_cases b:i=ys.length
  ·have e:¬((i:Int)<(ys.length:Int)):=(by omega);rw[b,sI]at b1 b2|-
   have l:=hide (show dZ s ys=65536*(eH (s%65536,s/65536) ys).2+(eH (s%65536,s/65536) ys).1 from rfl);generalize(eH (s%65536,s/65536) ys).1=A at*;generalize(eH (s%65536,s/65536) ys).2=z at*;go_wp2_with fail;go_ret;refine⟨?_,rfl⟩;rw[l.o];simp
  ·have e:(i:Int)<(ys.length:Int):=(by omega);have n:(0:Int)<=(i:Int):=(by omega);obtain⟨k,off,rfl,B⟩:∃k off,u=some (U k off)/\wr.cell? ⟨k,off+i,none⟩=some (.int .u8 (ys[i]?.getD 0:Nat)):=by
    have m:=d;rcases j with⟨a,c,rfl,rfl⟩|⟨k,off,cap,rfl,g⟩
    ·simp only[pE]at b hk;omega
    ·cases m;exact⟨k,off,rfl,g i (by omega)⟩
   have C:ys[i]?.getD 0<256:=by
    rw[bV (by omega)];exact t _ (vE _)
   have f:=hide (show eH (s%65536,s/65536) (ys.take (i+1))=uD (eH (s%65536,s/65536) (ys.take i)) (ys[i]?.getD 0) from by
    rw[LB (by omega),NH,bV (by omega)];rfl)
   generalize eH (s%65536,s/65536) (ys.take i)=Q at*;generalize ys[i]?.getD 0=x at*;go_wp2_with fail;go_roundg (gk-1);case measure=>omega
   case rel=>
    refine⟨i+1,rfl,by omega,?_,?_,rfl⟩
    ·rw[f.o];simp[uD]
    ·rw[f.o];simp[uD]
def ZL (c:Nat)(h:c<4294967296):bits .xor .u32 IntKind.u32.max (c:Int)=((4294967295-c:Nat):Int):=by
 have e:BitVec.ofInt 32 IntKind.u32.max=BitVec.allOnes 32:=by decide
 show IntKind.u32.wrap ((BitVec.ofInt 32 IntKind.u32.max^^^BitVec.ofInt 32 (c:Int)).toNat:Int)=_;rw[e,BitVec.allOnes_xor,BitVec.toNat_not,ofInt_u32 c h,IntKind.wrap_u32'];omega
def Mq (c:Nat)(h:c<4294967296):bits .xor .u32 ((c:Int)/2) ((c:Int)%2*3988292384)=((sJ c:Nat):Int):=by
 have e:(c:Int)%2*3988292384=((c%2*3988292384:Nat):Int):=by omega
 rw[e,show(c:Int)/2=((c/2:Nat):Int) by omega,DY _ _ (by omega) (by omega)];rfl
def tC (c:Nat)(v:aK)(ys:aD)(w:aH)(hs:c<4294967296)(q:tZ w v ys)(f:∀y∈ys,y<256)(p:ys.length<=140737488355328):Calls prog 94 #[.int .u32 (c:Nat),v] w fun r w'=>r= .returned (.int .u32 (aL c ys:Nat))/\w'=w:=by
 obtain⟨I,M,d⟩:∃a c,v= .slice a ys.length c:=by
  rcases q with⟨a,c,rfl,rfl⟩|⟨k,off,cap,rfl,_⟩
  ·exact⟨a,c,rfl⟩
  ·exact⟨_,_,rfl⟩
 have l:=hide d;have n:=hide f;clear f;rw[d];clear d;go_enter func94,ntmps94;go_wp2_with fail;rw[ZL c hs];go_loopg [0,6,11,19] ys.length (fun k u0 u6 u11 u19 wr=>∃i:Nat,u11=V i/\k+i=ys.length/\u0= .int .u32 (gJ (4294967295-c) (ys.take i):Nat)/\wr=w);case atStart=>exact⟨0,rfl,by omega,rfl,rfl⟩
 case round=>
  obtain⟨i,rfl,hk,rfl,rfl⟩:=hrel;have b1:gJ (4294967295-c) (ys.take i)<4294967296:=FD _ _ (by omega) (fun y f=>n.o y (zN f));by_cases b:i=ys.length
  ·have m:¬((i:Int)<(ys.length:Int)):=(by omega);rw[b,sI]at b1|-
   have s:=hide (show aL c ys=4294967295-gJ (4294967295-c) ys from rfl);generalize gJ (4294967295-c) ys=Q at*;have hn:=ZL Q b1;go_wp2_with fail;go_ret;refine⟨?_,rfl⟩;rw[s.o];rfl
  ·have m:(i:Int)<(ys.length:Int):=(by omega);have A:(0:Int)<=(i:Int):=(by omega);obtain⟨k,off,rfl,L⟩:∃k off,I=some (U k off)/\wr.cell? ⟨k,off+i,none⟩=some (.int .u8 (ys[i]?.getD 0:Nat)):=by
    have z:=l.o;rcases q with⟨a,c,rfl,rfl⟩|⟨k,off,cap,rfl,p⟩
    ·simp only[pE]at b hk;omega
    ·cases z;exact⟨k,off,rfl,p i (by omega)⟩
   have G:ys[i]?.getD 0<256:=by
    rw[bV (by omega)];exact n.o _ (vE _)
   have t:=hide (show gJ (4294967295-c) (ys.take (i+1))=nP 8 (gJ (4294967295-c) (ys.take i)^^^ys[i]?.getD 0) from by
    rw[LB (by omega),JA,bV (by omega)];rfl)
   generalize gJ (4294967295-c) (ys.take i)=Q at*;generalize ys[i]?.getD 0=x at*;have J:=DY Q x b1 (by omega);have b2:=L9 Q x b1 G;have H:(x:Int)<4294967296:=(by omega);go_wp2_with fail;generalize Q^^^x=e at*;go_loopg [0,19] 8 (fun k u0 u19 wr2=>∃j:Nat,u19=V j/\k+j=8/\u0= .int .u32 (nP j e:Nat)/\wr2=wr);case atStart=>exact⟨0,rfl,by omega,rfl,rfl⟩
   case round=>
    obtain⟨j,rfl,F,rfl,rfl⟩:=hrel;by_cases B:j=8
    ·subst B;go_wp2_with fail;go_roundg (ys.length-(i+1));case measure=>omega
     case rel=>exact⟨i+1,rfl,by omega,by rw[t.o],rfl⟩
    ·have D:(j:Int)<8:=(by omega);have u:=F9 j e b2;have K:=Mq (nP j e) u;have g:=hide (show nP (j+1) e=sJ (nP j e) from rfl);generalize nP j e=C at*;go_wp2_with fail;go_roundg (gk-1);case measure=>omega
     case rel=>exact⟨j+1,rfl,by omega,by rw[g.o],rfl⟩
end Go.Proofs.YtbpahojchgpdnaaGreatDoor
namespace Go.dM
variable {xs:aD}
def iR (xs:aD):Prop:=∀y∈xs,y<256
def iR.append {ys:aD}(h:iR xs)(k:iR ys):iR (xs++ys):=fun y a=>(iF.1 a).elim (h y) (k y)
def iR.take (h:iR xs)(n:Nat):iR (xs.take n):=fun y a=>h y (zN a)
def iR.copied (h:iR xs)(d n:Nat):iR (copied xs d n):=by
 intro y a;obtain⟨i,_,rfl⟩:=sU.1 a;by_cases hi:xs.length-d+i%d<xs.length
 ·rw[bV hi];exact h _ (vE hi)
 ·rw[fZ (by omega)];decide
def Keep (g:G):Prop:=(∀s',g= .go s'->iR s'.out/\(s'.place=3->s'.p%8=0))/\(∀e out,g= .no e out->iR out)
def KQ {s:GS}{p:Nat}(h:iR s.out)(a:iR xs)(b:s.place≠3):Keep (mM s xs p):=by
 constructor
 ·intro s' hp;obtain⟨rfl,c⟩:=E9 hp;exact⟨h.append a,fun x=>absurd x b⟩
 ·intro e out hp;unfold mM at hp;split at hp
  ·cases hp
  ·cases hp;exact h.append (a.take _)
def Q0 {B:aD}{s:GS}(h:iR s.out)(c:s.place≠3):Keep (bM B s):=by
 have f:∀p,iR (s.ended p).out/\((s.ended p).place=3->(s.ended p).p%8=0):=fun p=>⟨h,fun x=>by
  unfold GS.ended at x|-
  dsimp only at x|-
  split at x
  ·rename_i g;rw[aA g];omega
  ·omega⟩
 have no:∀e,Keep (.no e s.out):=fun e=>⟨fun s' hs=>(by cases hs),fun b out hs=>by cases hs;exact h⟩
 have miss:Keep .miss:=⟨fun s' hs=>(by cases hs),fun b out hs=>by cases hs⟩
 have go:∀s':GS,s'.out=s.out->s'.place≠3->Keep (.go s'):=fun s' i hp=>⟨fun j hs=>(by cases hs;exact⟨by rw[i];exact h,fun x=>absurd x hp⟩),fun b out hs=>by cases hs⟩
 have ends:∀p,Keep (.go (s.ended p)):=fun p=>⟨fun j hs=>(by cases hs;exact f p),fun b out hs=>by cases hs⟩
 unfold bM;split
 ·unfold nO;split
  ·exact ends _
  ·split
   ·exact KQ (s:={ s with left:=s.left-1 }) h (by intro y a;simp at a;subst a;exact bO B s.p 8) c
   ·exact miss
 ·split
  ·unfold uF;split
   ·exact no _
   ·exact miss
   ·split
    ·rename_i d;exact KQ h (by intro y a;simp at a;subst a;exact d) c
    ·split
     ·exact ends _
     ·unfold gCopy;split
      ·exact no _
      ·exact miss
      ·split
       ·exact no _
       ·exact miss
       ·split
        ·exact no _
        ·exact KQ h (h.copied _ _) c
  ·unfold kL;split
   ·split
    ·split
     ·split
      ·exact go _ rfl (by dsimp only;omega)
      ·exact no _
     ·exact miss
    ·split
     ·exact go _ rfl (by dsimp only;omega)
     ·split
      ·split
       ·exact go _ rfl (by dsimp only;omega)
       ·exact no _
       ·exact miss
      ·exact no _
   ·exact miss
def eZ.bytes {B:aD}{n e:Nat}{s:GS}{out:aD}{q:Nat}(d:eZ B n s e out q)(h:iR s.out)(c:s.place=3->s.p%8=0):iR out/\q%8=0:=by
 induction d with
 |done s hp=>exact⟨h,c hp⟩
 |no s e out hp a=>exact⟨(Q0 h hp).2 e out a,rfl⟩
 |miss s hp a=>exact⟨h,rfl⟩
 |go n s f e out q hp a k ih=>
  have b:=(Q0 h hp).1 f a;exact ih b.1 b.2
end Go.dM
namespace Go.Proofs.YtbpahojchgpdnaaGreatDoor
open Go.RowKit Go.dM Go.Proofs.Tryz
variable {xs:aD}
def vT (c:Nat):Prop:=c%16=8/\c/16<=7
def zC (c f:Nat):Prop:=f/32%2=0/\(256*c+f)%31=0
instance (c:Nat):Decidable (vT c):=by unfold vT;infer_instance
instance (c f:Nat):Decidable (zC c f):=by unfold zC;infer_instance
def jB (B:aD)(p:Nat):Nat->Nat
 |0=>0
 |n+1=>256*jB B p n+aG B (p+8*n) 8
def Fj (B:aD)(p n:Nat):jB B p n<256^n:=by
 induction n with
 |zero=>simp[jB]
 |succ n ih=>
  have h:=bO B (p+8*n) 8;unfold jB;rw[gW];omega
def Yt (b:bY)(w:aH)(l:b.size<=140737488355328):Calls prog 147 #[.string b] w fun r w'=>r= .returned (.int .u32 (dZ 1 (bytesOf b):Nat))/\w'=w:=by
 go_enter func147,ntmps147;go_wp2_with fail;go_loopg [3,4,5] b.size (fun k u3 u4 u5 wr=>∃i:Nat,u5=V i/\k+i=b.size/\u3=V ((eH (1,0) ((bytesOf b).take i)).1:Nat)/\u4=V ((eH (1,0) ((bytesOf b).take i)).2:Nat)/\wr=w);case atStart=>exact⟨0,rfl,by omega,by simp[eH],by simp[eH],rfl⟩
 case round=>
  obtain⟨i,rfl,hk,rfl,rfl,rfl⟩:=hrel;obtain⟨b1,b2⟩:=E8 (1,0) (by decide) (by decide) ((bytesOf b).take i);by_cases a:i=b.size
  ·have d:¬((i:Int)<(b.size:Int)):=(by omega);have f:=hide (show dZ 1 (bytesOf b)=65536*(eH (1,0) (bytesOf b)).2+(eH (1,0) (bytesOf b)).1 from rfl);rw[kW (by rw[bytesOf_length];omega)]at b1 b2|-
   clear a;generalize(eH (1,0) (bytesOf b)).1=A at*;generalize(eH (1,0) (bytesOf b)).2=j at*;go_wp2_with fail;go_ret;refine⟨?_,rfl⟩;rw[f.o];simp
  ·have d:(i:Int)<(b.size:Int):=(by omega);have g:(0:Int)<=(i:Int):=(by omega);have c:i<b.size:=(by omega);have m:b[i].toNat<256:=b[i].toNat_lt;have e:=hide (show eH (1,0) ((bytesOf b).take (i+1))=uD (eH (1,0) ((bytesOf b).take i)) b[i].toNat from by rw[bytesOf_take b i c,NH]);generalize eH (1,0) ((bytesOf b).take i)=Q at*;go_wp2_with fail;go_roundg (gk-1);case measure=>omega
   case rel=>
    refine⟨i+1,rfl,by omega,?_,?_,rfl⟩
    ·rw[e.o];simp[uD]
    ·rw[e.o];simp[uD]
def TU (b:bY)(w:aH)(F:b.size<=140737488355328):Calls prog 150 #[.string b] w fun r w'=>r= .returned (.int .u32 (aL 0 (bytesOf b):Nat))/\w'=w:=by
 go_enter func150,ntmps150;go_wp2_with fail;go_loopg [3,4,5,6] b.size (fun k u3 u4 u5 u6 wr=>∃i:Nat,u4=V i/\k+i=b.size/\u3= .int .u32 (gJ 4294967295 ((bytesOf b).take i):Nat)/\wr=w);case atStart=>exact⟨0,rfl,by omega,rfl,rfl⟩
 case round=>
  obtain⟨i,rfl,hk,rfl,rfl⟩:=hrel;have b1:gJ 4294967295 ((bytesOf b).take i)<4294967296:=FD _ _ (by omega) (fun y A=>pV b y (zN A));by_cases m:i=b.size
  ·have g:¬((i:Int)<(b.size:Int)):=(by omega);have p:=hide (show aL 0 (bytesOf b)=4294967295-gJ 4294967295 (bytesOf b) from rfl);rw[kW (by rw[bytesOf_length];omega)]at b1|-
   generalize gJ 4294967295 (bytesOf b)=Q at*;have hn:bits .xor .u32 (Q:Int) 4294967295=((4294967295-Q:Nat):Int):=by
    rw[show(4294967295:Int)=((4294967295:Nat):Int) from rfl,DY Q 4294967295 b1 (by omega),Nat.xor_comm,<-DY 4294967295 Q (by omega) b1];exact ZL Q b1
   go_wp2_with fail;go_ret;refine⟨?_,rfl⟩;rw[p.o];rfl
  ·have g:(i:Int)<(b.size:Int):=(by omega);have s:(0:Int)<=(i:Int):=(by omega);have f:i<b.size:=(by omega);have x:b[i].toNat<256:=b[i].toNat_lt;have q:=hide (show gJ 4294967295 ((bytesOf b).take (i+1))=nP 8 (gJ 4294967295 ((bytesOf b).take i)^^^b[i].toNat) from by
    rw[bytesOf_take b i f,JA];rfl)
   generalize gJ 4294967295 ((bytesOf b).take i)=Q at*;have D:=DY Q b[i].toNat b1 (by omega);have b2:=L9 Q b[i].toNat b1 x;have z:(b[i].toNat:Int)<4294967296:=(by omega);go_wp2_with fail;generalize Q^^^b[i].toNat=a at*;go_loopg [3,5,6] 8 (fun k u3 u5 u6 wr2=>∃j:Nat,u5=V j/\k+j=8/\u3= .int .u32 (nP j a:Nat)/\wr2=wr);case atStart=>exact⟨0,rfl,by omega,rfl,rfl⟩
   case round=>
    obtain⟨j,rfl,v,rfl,rfl⟩:=hrel;by_cases t:j=8
    ·subst t;go_wp2_with fail;go_roundg (b.size-(i+1));case measure=>omega
     case rel=>exact⟨i+1,rfl,by omega,by rw[q.o],rfl⟩
    ·have u:(j:Int)<8:=(by omega);have B:=F9 j a b2;have c:=hide (show nP (j+1) a=sJ (nP j a) from rfl);generalize nP j a=C at*;by_cases n:C%2=1
     ·have l:((C:Int)%2==1)=true:=(by rw[dI];omega);have e:bits .xor .u32 ((C:Int)/2) 3988292384=((sJ C:Nat):Int):=by
       rw[Ns C n,<-DY (C/2) 3988292384 (by omega) (by omega)];simp
      go_wp2_with fail;go_roundg (gk-1);case measure=>omega
      case rel=>exact⟨j+1,rfl,by omega,by rw[c.o],rfl⟩
     ·have l:((C:Int)%2==1)=false:=(by rw[aX];omega);have e:(C:Int)/2=((sJ C:Nat):Int):=(by rw[Gu C n];omega);have d:=hide e;clear e;go_wp2_with fail;go_roundg (gk-1);case measure=>omega
      case rel=>exact⟨j+1,rfl,by omega,by rw[c.o,d.o],rfl⟩
end Go.Proofs.YtbpahojchgpdnaaGreatDoor
