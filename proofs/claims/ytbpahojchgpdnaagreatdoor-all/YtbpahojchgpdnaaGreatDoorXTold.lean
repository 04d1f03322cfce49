import Derived.Test.YtbpahojchgpdnaaGreatDoorLinked
set_option maxRecDepth 20000
set_option maxHeartbeats 4000000
set_option linter.all false
namespace Go.Proofs.YtbpahojchgpdnaaGreatDoor
open Go.RowKit Go.dM Go.Proofs.Tryz
variable {base c e k m n p q x:Nat} {B out:aD} {w w1:aH} {b:bY}
def Du (x base:Nat)(j:aK)(g:∃a n c,j= .slice a n c)(b:bY)(s:XS)(w:aH)(h:j6 w x base b s)(o:s.err≠0):Calls prog 168 #[E x,j] w fun r w'=>r= .returned (nat 0)/\j6 w' x base b s/\dH x w s.v w' s.v:=by
 obtain⟨a,n,c,rfl⟩:=g;have d:O w (w.alloc (.cells #[V 0,V 0] 234)):=(aU _ _).alloc _;have f:=h.step0 d;have i:=(dH.refl x w s.v).step0 d;obtain⟨_,_,c2,_⟩:=f.cell;have l:((s.err:Int)==0)=false:=aX.2 (by omega);go_enter func168,ntmps168;go_wp2_with fail;go_loopg [6] 1 (fun k u wr=>wr=w.alloc (.cells #[V 0,V 0] 234));case atStart=>rfl
 case round=>
  subst hrel;go_wp2_with fail;go_ret;exact⟨rfl,f,i⟩
def iU (G:GS)(s:XS):GS:={ G with place:=2,out:=s.out,p:=s.at_ }
def OV (B:aD)(k e:Nat)(out:aD)(q:Nat)(G:GS)(m:Nat)(s2:XS):Prop:=m<k/\s2.err=0/\s2.most=G.most/\eZ B m (iU G s2) e out q
structure wE (w wr:aH)(x base:Nat)(b:bY)(s s2:XS):Prop where
 most:s2.most=s.most
 name:s2.name=s.name
 room:s2.out.length<=s2.most
 H9:j6 wr x base b s2
 wrt:dH x w s.v wr s2.v
def Z9 (out:aD)(a n i:Nat)(o:1<=a)(g:a<=out.length)(hi:i<n):(out++(copied out a n).take i)[out.length+i-a]?.getD 0=(copied out a n)[i]?.getD 0:=by
 have r:=kX out a n;have d:∀j,j<n->(copied out a n)[j]?.getD 0=out[out.length-a+j%a]?.getD 0:=fun j l=>by simp[copied,l]
 rw[d i hi];by_cases f:i<a
 ·rw[jA (by omega),kC f,show out.length+i-a=out.length-a+i by omega]
 ·rw[kZ (by omega),show out.length+i-a-out.length=i-a by omega,jQ (by omega),d (i-a) (by omega)];have:(i-a)%a=i%a:=by
   conv=>rhs;rw[show i=(i-a)+a*1 by omega]
   rw[Nat.add_mul_mod_self_left]
  rw[this]
def Bl (e:Nat)(out:aD)(s2:XS)(q6 dist n j:Nat)(s7:XS):Prop:=
 (s7.err=0/\s7.at_=q6/\s7.out=s2.out++(copied s2.out dist n).take j)\/(s7.err≠0/\s7.err=e/\s7.out=out)
def an2 {G:GS}{d f:XS}{y a j:Nat}(z:aK)(h:Bl e out d y a n j f)(A:f.err=0)(K:1<=a)(s:a<=d.out.length)(M:j<n)(P:d.most=G.most)(Q:f.most=d.most)(v:f.out.length<=f.most)(J:c=f.out[f.out.length-a]?.getD 0)(l:eZ B m (iU G d) e out q)(t:bM B (iU G d)=mM (iU G d) (copied d.out a n) y):Bl e out d y a n (j+1) (qR c f z)/\(qR c f z).out.length<=(qR c f z).most:=by
 have N:=kX d.out a n;rcases h with⟨_,I,o⟩|⟨H,_⟩
 case inr=>exact absurd A H
 have g:f.out.length=d.out.length+j:=by rw[o,aN,dF,N];omega
 have r:c=(copied d.out a n)[j]?.getD 0:=by
  rw[J,g,o];exact Z9 d.out a n j K s M
 unfold qR;rw[aB (by omega)];by_cases i:f.out.length<f.most
 ·rw[aA i];refine⟨.inl ⟨A,I,?_⟩,by dsimp only;rw[aN,oH];omega⟩;dsimp only;rw[o,dB,r,LB (by omega),bV (by omega)];rfl
 ·rw[aB i];have F:(iU G d).place≠3:=by unfold iU;simp
  unfold mM at t;have D:(iU G d).out=d.out:=rfl;have C:(iU G d).most=G.most:=rfl;rw[D,C,aB (by omega)]at t;obtain⟨L,u⟩:=l.qQ _ _ t F;refine⟨.inr ⟨by simp,L.symm,?_⟩,v⟩;dsimp only;rw[u,o,show G.most-d.out.length=j by omega]
structure Ready (w:aH)(x C1 C2:Nat)(v:aK)(ls ld:aD):Prop where
 c1:qN w C1 ls
 c2:qN w C2 ld
 o1:Off x v C1
 o2:Off x v C2
 l1:∀i:Nat,ls[i]?.getD 0<=15
 l2:∀i:Nat,ld[i]?.getD 0<=15
 n1:ls.length<=1000
 n2:ld.length<=1000
 f1:p9 ls=true
 f2:p9 ld=true
def Ready.wrt {w':aH}{d f:Nat}{v g:aK}{ls ld:aD}(h:Ready w x d f v ls ld)(a:dH x w v w' g):Ready w' x d f g ls ld:=⟨h.c1.wrt h.o1 a,h.c2.wrt h.o2 a,h.o1.wrt h.c1.lt a,h.o2.wrt h.c2.lt a,h.l1,h.l2,h.n1,h.n2,h.f1,h.f2⟩
def JQ (x base k e C1 C2:Nat)(b:bY)(s:XS)(G:GS)(out:aD)(q:Nat)(w:aH)(h:j6 w x base b s)(hS:Same b s G)(hR:Ready w x C1 C2 s.v G.ls G.ld)(k1:Nat)(dj:k1<k)(hr:eZ (bytesOf b) k1 (iU G s) e out q)(dt:s.out.length<=s.most):Calls prog 143 #[E x, .slice (some (U C1 0)) G.ls.length G.ls.length, .slice (some (U C2 0)) G.ld.length G.ld.length] w fun r w'=>r= .returned (.tuple #[])/\∃s',rG (bytesOf b) k e out q G.last s'/\wE w w' x base b s s':=by
 have cy:=bytesOf_length b;have ao:=hS.lim;have cq:=hide (show wE w w x base b s s from⟨rfl,rfl,dt,h,dH.refl _ _ _⟩);have bc:=hide (show OV (bytesOf b) k e out q G k1 s from⟨dj,hS.err,hS.most,hr⟩);go_enter func143,ntmps143;go_wp2_with fail;go_loopg [6] (k1+1) (fun g u wr=>∃f,wE w wr x base b s f/\((f.err=0/\∃m,m+1=g/\OV (bytesOf b) k e out q G m f)\/(g=0/\f.err≠0/\f.err=e/\f.out=out)));case atStart=>exact⟨s,cq.o, .inl ⟨bc.o.2.1,k1,rfl,bc.o⟩⟩
 case round=>
  obtain⟨f,l,bl⟩:=hrel;obtain⟨_,_,c2,_⟩:=l.H9.cell;rcases bl with⟨H,m,eg,eh,_,M,D⟩|⟨ee,H,df,dq⟩
  case inr=>
   have de:((f.err:Int)==0)=false:=aX.2 (by omega);have HE:=hide (show rG (bytesOf b) k e out q G.last f from .inl ⟨H,df,dq⟩);go_wp2_with fail;go_end0;exact⟨rfl,f,HE.o,l⟩
  rw[H]at c2;have P:=hR.wrt l.wrt;have A:bM (bytesOf b) (iU G f)=uF (bytesOf b) (iU G f):=by
   unfold bM;rw[aB (show¬(iU G f).place=1 by unfold iU;simp),aA (show(iU G f).place=2 from rfl)]
  have h3:(iU G f).place≠3:=by unfold iU;simp
  have cm:=BF x base C1 G.ls b f wr l.H9 P.c1 P.o1 P.l1 P.n1 P.f1 H;unfold uF at A;have cu:(iU G f).ls=G.ls:=rfl;have ep:(iU G f).p=f.at_:=rfl;have eo:(iU G f).out=f.out:=rfl;rw[cu,ep,eo]at A;go_wp2_with fail;apply cm.mono;rintro r w3 ⟨y,s3,rfl,al,Z,bb,_⟩;cases hrs:lC (aI G.ls) (bytesOf b) f.at_ with
  |no e1=>
   rw[hrs]at al A;obtain⟨_,a,ha,au⟩:=al;have bp:=oU hrs;obtain⟨X,Q⟩:=D.qQ _ _ A h3;subst au;obtain⟨_,_,d2,_⟩:=Z.cell;dsimp only at d2;subst bp;have N:=hide (show rG (bytesOf b) k e out q G.last { f with err:=9,at_:=a }/\wE w w3 x base b s { f with err:=9,at_:=a } from⟨.inl ⟨by simp,X.symm,Q.symm⟩,⟨l.most,l.name,l.room,Z,l.wrt.trans bb⟩⟩);go_wp2_with fail;refine aY (mD rfl _ _ _) rfl ?_;exact⟨rfl,_,N.o.1,N.o.2⟩
  |miss=>
   rw[hrs]at al A;obtain⟨_,a,ha,au⟩:=al;obtain⟨X,Q⟩:=D.wN A h3;subst au;obtain⟨_,_,d2,_⟩:=Z.cell;dsimp only at d2;have N:=hide (show rG (bytesOf b) k e out q G.last { f with err:=3,at_:=a }/\wE w w3 x base b s { f with err:=3,at_:=a } from⟨.inl ⟨by simp,X.symm,Q.symm⟩,⟨l.most,l.name,l.room,Z,l.wrt.trans bb⟩⟩);go_wp2_with fail;refine aY (mD rfl _ _ _) rfl ?_;exact⟨rfl,_,N.o.1,N.o.2⟩
  |ok c q3=>
   have cl:=oV hrs;have ea:=YS P.n1 _ _ cl.2.2.2;rw[hrs]at al A;obtain⟨co,au⟩:=al;rw[co];rw[co]at*;replace A:bM (bytesOf b) (iU G f)=if c<256 then mM (iU G f) [c] q3 else if c=256 then .go ((iU G f).ended q3)else gCopy (bytesOf b) (iU G f) c q3:=A
   subst au;obtain⟨_,_,d2,_⟩:=Z.cell;dsimp only at d2;rw[H]at d2;have az:=hide (l.wrt.trans bb);have dr:q3<=8*b.size:=(by have:=cl.2.1;omega);have dm:f.most<=1048576:=(by rw[l.most];exact ao);have F:=l.room;by_cases am:c<256
   ·rw[aA am]at A;have aq:=QG x base c b { f with at_:=q3 } w3 Z dm;have da:((c:Int)==256)=false:=aX.2 (by omega);go_wp2_with fail;apply aq.mono;rintro r w4 ⟨rfl,v',ab,Y⟩;have A:=A;unfold mM at A;have ag:∃s4,wE w w4 x base b s s4/\((s4.err=0/\∃m',m'+1=m/\OV (bytesOf b) k e out q G m' s4)\/(s4.err≠0/\s4.err=e/\s4.out=out)):=by
     refine⟨qR c { f with at_:=q3 } v',⟨(sQ _ _ _).1.trans l.most,(sQ _ _ _).2.trans l.name,?_,ab,az.o.trans Y⟩,?_⟩
     ·unfold qR;rw[aB (by dsimp only;omega)];split
      ·rename_i ae;dsimp only at ae|-
       rw[aN,oH];omega
      ·exact F
     ·unfold qR;rw[aB (by dsimp only;omega)];by_cases ae:f.out.length<f.most
      ·rw[aA (by dsimp only;exact ae)];rw[aA (by unfold iU;simp;omega)]at A;obtain⟨m',ba,ar⟩:=D.LY A h3;exact .inl ⟨H,m',by omega,by omega,H,M,ar⟩
      ·rw[aB (by dsimp only;exact ae)];rw[aB (by unfold iU;simp;omega)]at A;obtain⟨X,Q⟩:=D.qQ _ _ A h3;refine .inr ⟨by simp,X.symm,?_⟩;rw[Q];unfold iU;dsimp only;have:G.most-f.out.length=0:=(by omega);rw[this];simp
    go_wp2_with fail;obtain⟨s4,cd,cz⟩:=ag;rcases cz with⟨cv,m',ba,ds⟩|h4
    ·go_roundg m;case measure=>omega
     case rel=>exact⟨s4,cd, .inl ⟨cv,m',ba,ds⟩⟩
    ·go_roundg 0;case measure=>omega
     case rel=>exact⟨s4,cd, .inr ⟨rfl,h4⟩⟩
   by_cases h6:c=256
   ·subst h6;rw[aB am,aA rfl]at A;obtain⟨m',ba,ar⟩:=D.LY A h3;have N:=hide (show rG (bytesOf b) k e out q G.last { f with at_:=q3 } from TB ar k (by omega) H rfl M.symm rfl);go_wp2_with fail;refine aY (mD rfl _ _ _) rfl ?_;exact⟨rfl,{ f with at_:=q3 },N.o,⟨l.most,l.name,F,Z,az.o⟩⟩
   rw[aB am,aB h6]at A;have da:((c:Int)==256)=false:=aX.2 (by omega);by_cases be:285<c
   ·have J:gCopy (bytesOf b) (iU G f) c q3= .no 9 f.out:=by
     unfold gCopy eF;rw[aA be];rfl
    rw[J]at A;obtain⟨X,Q⟩:=D.qQ _ _ A h3;go_wp2_with fail;apply(iK x base 9 b { f with at_:=q3 } w3 Z).mono;rintro r w4 ⟨rfl,ab,Y⟩;dsimp only at ab Y;rw[aA H]at ab;have cr:=hide (az.o.trans Y);go_wp2_with fail;refine aY (mD rfl _ _ _) rfl ?_;exact⟨rfl,{ f with at_:=q3,err:=9 }, .inl ⟨by simp,X.symm,Q.symm⟩,⟨l.most,l.name,F,ab,cr.o⟩⟩
   have cf:=Bc x base c b { f with at_:=q3 } w3 Z H (by omega) (by omega);have eb:¬(285:Int)<(c:Int):=(by omega);have cj:=P.wrt bb;go_wp2_with fail;apply cf.mono;rintro r w4 ⟨n,s4,rfl,aj,ab,Y⟩;replace Y:dH x w3 f.v w4 f.v:=Y;have S:=cj.wrt Y;have bj:=az.o.trans Y;cases hrl:eF (bytesOf b) q3 c with
   |no e1=>
    exfalso;unfold eF at hrl;rw[aB be]at hrl;split at hrl
    ·cases hrl
    ·split at hrl
     ·cases hrl
     ·split at hrl<;>cases hrl
   |miss=>
    rw[hrl]at aj;obtain⟨_,a,ha,br⟩:=aj;subst br;have J:gCopy (bytesOf b) (iU G f) c q3= .miss:=(by unfold gCopy;rw[hrl]);have A:=A;rw[J]at A;obtain⟨X,Q⟩:=D.wN A h3;go_wp2_with fail;apply(Du x base _ ⟨_,_,_,rfl⟩ b _ w4 ab (by simp)).mono;rintro r w5 ⟨rfl,R,ak⟩;obtain⟨_,_,d5,_⟩:=R.cell;dsimp only at d5;have cs:=hide (bj.trans ak);go_wp2_with fail;refine aY (mD rfl _ _ _) rfl ?_;exact⟨rfl,{ f with err:=3,at_:=a }, .inl ⟨by simp,X.symm,Q.symm⟩,⟨l.most,l.name,F,R,cs.o⟩⟩
   |ok n' q4=>
    rw[hrl]at aj;obtain⟨dp,br⟩:=aj;subst br;rw[dp];have dy:=QI hrl (by omega);have ei:q4<=8*b.size:=(by have:=(FM hrl (by rw[cy];exact dr)).2;omega);have bt:=BF x base C2 G.ld b { f with at_:=q4 } w4 ab S.c2 S.o2 S.l2 S.n2 S.f2 H;go_wp2_with fail;apply bt.mono;rintro r w5 ⟨dd,s5,rfl,K,R,ak,_⟩;replace ak:dH x w4 f.v w5 f.v:=ak;replace K:XR (lC (aI G.ld) (bytesOf b) q4) b { f with at_:=q4 } dd s5:=K;have ck:=S.wrt ak;have ai:=bj.trans ak;cases hrs5:lC (aI G.ld) (bytesOf b) q4 with
    |no e1=>
     have bp:=oU hrs5;subst bp;rw[hrs5]at K;obtain⟨_,a,ha,av⟩:=K;subst av;have J:gCopy (bytesOf b) (iU G f) c q3= .no 9 f.out:=by
      unfold gCopy;rw[hrl];show(match iQ (aI G.ld) (bytesOf b) q4 with| .no e=>_| .miss=>_| .ok z q2=>_)=_;unfold iQ;rw[hrs5];rfl
     have A:=A;rw[J]at A;obtain⟨X,Q⟩:=D.qQ _ _ A h3;obtain⟨_,_,d5,_⟩:=R.cell;dsimp only at d5;go_wp2_with fail;refine aY (mD rfl _ _ _) rfl ?_;exact⟨rfl,{ f with err:=9,at_:=a }, .inl ⟨by simp,X.symm,Q.symm⟩,⟨l.most,l.name,F,R,ai⟩⟩
    |miss=>
     rw[hrs5]at K;obtain⟨_,a,ha,av⟩:=K;subst av;have J:gCopy (bytesOf b) (iU G f) c q3= .miss:=by
      unfold gCopy;rw[hrl];show(match iQ (aI G.ld) (bytesOf b) q4 with| .no e=>_| .miss=>_| .ok z q2=>_)=_;unfold iQ;rw[hrs5]
     have A:=A;rw[J]at A;obtain⟨X,Q⟩:=D.wN A h3;obtain⟨_,_,d5,_⟩:=R.cell;dsimp only at d5;go_wp2_with fail;refine aY (mD rfl _ _ _) rfl ?_;exact⟨rfl,{ f with err:=3,at_:=a }, .inl ⟨by simp,X.symm,Q.symm⟩,⟨l.most,l.name,F,R,ai⟩⟩
    |ok d q5=>
     rw[hrs5]at K;obtain⟨db,av⟩:=K;subst av;rw[db];have bh:=oV hrs5;have ec:=YS ck.n2 _ _ bh.2.2.2;have ej:q5<=8*b.size:=(by have:=bh.2.1;omega);obtain⟨_,_,d5,_⟩:=R.cell;dsimp only at d5;rw[H]at d5;by_cases cb:30<=d
     ·have J:gCopy (bytesOf b) (iU G f) c q3= .no 9 f.out:=by
       unfold gCopy;rw[hrl];show(match iQ (aI G.ld) (bytesOf b) q4 with| .no e=>_| .miss=>_| .ok z q2=>_)=_;unfold iQ;rw[hrs5];dsimp only;rw[aA cb];rfl
      have A:=A;rw[J]at A;obtain⟨X,Q⟩:=D.qQ _ _ A h3;go_wp2_with fail;apply(iK x base 9 b { f with at_:=q5 } w5 R).mono;rintro r w6 ⟨rfl,L,af⟩;replace af:dH x w5 f.v w6 f.v:=af;replace L:j6 w6 x base b { f with at_:=q5,err:=if f.err=0 then 9 else f.err }:=L;rw[aA H]at L;obtain⟨_,_,d6,_⟩:=L.cell;dsimp only at d6;have ct:=hide (ai.trans af);go_wp2_with fail;refine aY (mD rfl _ _ _) rfl ?_;exact⟨rfl,{ f with at_:=q5,err:=9 }, .inl ⟨by simp,X.symm,Q.symm⟩,⟨l.most,l.name,F,L,ct.o⟩⟩
     ·have ah:iQ (aI G.ld) (bytesOf b) q4=rD (bytesOf b) q5 d:=by
       unfold iQ rD XK;rw[hrs5];dsimp only;rw[aB cb]
      have bo:=WE x base d b { f with at_:=q5 } w5 R H (by omega);have ed:¬(30:Int)<=(d:Int):=(by omega);go_wp2_with fail;apply bo.mono;rintro r w6 ⟨bz,s6,rfl,T,L,af⟩;replace af:dH x w5 f.v w6 f.v:=af;replace T:XR (rD (bytesOf b) q5 d) b { f with at_:=q5 } bz s6:=T;have aw:=ai.trans af;cases hdt:rD (bytesOf b) q5 d with
      |no e1=>
       exfalso;unfold rD XK at hdt;split at hdt
       ·cases hdt
       ·split at hdt<;>cases hdt
      |miss=>
       rw[hdt]at T;obtain⟨dx,a,ha,bs⟩:=T;subst bs;have J:gCopy (bytesOf b) (iU G f) c q3= .miss:=by
        unfold gCopy;rw[hrl];show(match iQ (aI G.ld) (bytesOf b) q4 with| .no e=>_| .miss=>_| .ok z q2=>_)=_;rw[ah.trans hdt]
       have A:=A;rw[J]at A;obtain⟨X,Q⟩:=D.wN A h3;obtain⟨_,_,d6,_⟩:=L.cell;dsimp only at d6;have aa:=hide (show wE w w6 x base b s { f with err:=3,at_:=a }/\({ f with err:=3,at_:=a }:XS).err≠0/\({ f with err:=3,at_:=a }:XS).err=e/\({ f with err:=3,at_:=a }:XS).out=out from⟨⟨l.most,l.name,F,L,aw⟩,by simp,X.symm,Q.symm⟩);go_wp2_with fail;go_loopw [10] (fun i wr=>i=V 0/\wr=w6) (fun _ _=>0);case atStart=>exact⟨rfl,rfl⟩
       case round=>
        obtain⟨rfl,bx⟩:=hrel;have ax:=bx.symm;subst ax;have dn:(0:Int)<(n':Int):=(by omega);go_wp2_with fail;go_roundg 0;case measure=>omega
        case rel=>exact⟨_,aa.o.1, .inr ⟨rfl,aa.o.2⟩⟩
      |ok z q6=>
       rw[hdt]at T;obtain⟨cx,bs⟩:=T;subst bs;rw[cx];have dc:=Dw (ah.trans hdt);have ek:q6<=8*b.size:=(by have:=(RJ (ah.trans hdt)).2;omega);have J:gCopy (bytesOf b) (iU G f) c q3=if f.out.length<z then .no 10 f.out else mM (iU G f) (copied f.out z n') q6:=by
        unfold gCopy;rw[hrl];show(match iQ (aI G.ld) (bytesOf b) q4 with| .no e=>_| .miss=>_| .ok z q2=>_)=_;rw[ah.trans hdt];rfl
       have A:=A;rw[J]at A;obtain⟨_,_,d6,v6,_⟩:=L.cell;dsimp only at d6 v6;rw[H]at d6;obtain⟨va,vc,bv⟩:=L.vQ;replace bv:f.v= .slice va f.out.length vc:=bv;rw[bv]at v6;have ef:f.out.length<=1048576:=(by omega);by_cases bf:f.out.length<z
       ·rw[aA bf]at A;obtain⟨X,Q⟩:=D.qQ _ _ A h3;have dg:(f.out.length:Int)<(z:Int):=(by omega);go_wp2_with fail;apply(iK x base 10 b { f with at_:=q6 } _ L).mono;rintro r w7 ⟨rfl,ay,bw⟩;replace bw:dH x w6 f.v w7 f.v:=bw;replace ay:j6 w7 x base b { f with at_:=q6,err:=if f.err=0 then 10 else f.err }:=ay;rw[aA H]at ay;obtain⟨_,_,d7,_⟩:=ay.cell;dsimp only at d7;have aa:=hide (show wE w w7 x base b s { f with at_:=q6,err:=10 }/\({ f with at_:=q6,err:=10 }:XS).err≠0/\({ f with at_:=q6,err:=10 }:XS).err=e/\({ f with at_:=q6,err:=10 }:XS).out=out from⟨⟨l.most,l.name,F,ay,aw.trans bw⟩,by simp,X.symm,Q.symm⟩);go_wp2_with fail;go_loopw [10] (fun i wr=>i=V 0/\wr=w7) (fun _ _=>0);case atStart=>exact⟨rfl,rfl⟩
        case round=>
         obtain⟨rfl,bx⟩:=hrel;have ax:=bx.symm;subst ax;have dn:(0:Int)<(n':Int):=(by omega);go_wp2_with fail;go_roundg 0;case measure=>omega
         case rel=>exact⟨_,aa.o.1, .inr ⟨rfl,aa.o.2⟩⟩
       ·rw[aB bf]at A;have aa:=hide (show wE w w6 x base b s { f with at_:=q6 }/\Bl e out f q6 z n' 0 { f with at_:=q6 } from⟨⟨l.most,l.name,F,L,aw⟩, .inl ⟨H,rfl,by simp⟩⟩);have dg:¬(f.out.length:Int)<(z:Int):=(by omega);go_wp2_with fail;go_loopw [10] (fun i wr=>∃(j:Nat) (I:XS),j<=n'/\i=V j/\wE w wr x base b s I/\Bl e out f q6 z n' j I) (fun i _=>n'-(intOf i).toNat);case atStart=>exact⟨0,_,by omega,rfl,aa.o.1,aa.o.2⟩
        case round=>
         obtain⟨j,I,hj,rfl,C,an⟩:=hrel;obtain⟨_,_,e7,v7,_⟩:=C.H9.cell;have ch:I.most=f.most:=C.most.trans l.most.symm;by_cases ac:I.err=0
         ·rw[ac]at e7;by_cases ae:j<n'
          ·have dl:I.out.length=f.out.length+j:=by
            rcases an with⟨_,_,Q⟩|⟨h9,_⟩
            ·rw[Q,aN,dF,kX];omega
            ·exact absurd ac h9
           have dk:z<=I.out.length:=(by omega);have cg:I.out.length<=1048576:=(by have:=C.room;omega);obtain⟨g7,cp,cn,bn⟩:∃g7 cp,I.v= .slice (some (U g7 0)) I.out.length cp/\wr.cell? ⟨g7,I.out.length-z,none⟩=some (.int .u8 (I.out[I.out.length-z]?.getD 0:Nat)):=by
            have bg:=C.H9.own;obtain⟨_,⟨hv,hz⟩|⟨g',ca,dz,hv,_⟩⟩:=C.H9.own
            ·omega
            ·refine⟨g',ca,hv,?_⟩;rw[hv]at bg;have h9:=bg.cellAt (I.out.length-z) (by omega);rw[h9];exact qM _ _ (by omega)
           rw[cn]at v7;obtain⟨t,bu⟩:=aP (I.out.length-z);obtain⟨cc,bm⟩:=aP (I.out[I.out.length-z]?.getD 0);rw[<-bm,<-bu]at bn;have ap:=fun v'=>an2 (G:=G) (q:=q) (B:=bytesOf b) (m:=m) v' an ac dc.1 (by omega) ae M ch C.room bm D A;have aq:=fun W (hW:j6 W x base b I)=>QG x base cc b I W hW (by rw[C.most];exact ao);obtain⟨bk,ad⟩:=aP I.out.length;rw[<-ad]at v7 bu dk cg;have er:IntKind.i64.wrap ((bk:Int)-(z:Int))=(t:Int):=(by rw[dK];omega);have en:(0:Int)<=(t:Int):=(by omega);have eq:(t:Int)<(bk:Int):=(by omega);clear an cn bm bu dl ad;go_wp2_with fail;go_region_with (first|(go_at_call 166;apply(aq _ (by first|exact C.H9|exact C.H9.drew)).mono;rintro e w8 ⟨rfl,v',dw,dv⟩));all_goals
            have ag:wE w w8 x base b s (qR cc I v')/\Bl e out f q6 z n' (j+1) (qR cc I v'):=⟨⟨(sQ cc I v').1.trans C.most,(sQ cc I v').2.trans C.name,(ap v').2,dw,C.wrt.drew.trans dv⟩,(ap v').1⟩
            go_wp2_with fail;exact⟨⟨j+1,_,by omega,by go_num,ag.1,ag.2⟩,by simp[intOf];omega⟩
          ·have dh:j=n':=(by omega);subst dh;rcases an with⟨_,cw,bq⟩|⟨h9,_⟩
           case inr=>exact absurd ac h9
           rw[kW (by rw[kX];exact aS _)]at bq;have A:=A;unfold mM at A;have el:=C.room;have ad:I.out.length=f.out.length+j:=(by rw[bq,aN,kX]);have eo:(iU G f).out=f.out:=rfl;have em:(iU G f).most=G.most:=rfl;rw[eo,em,aA (by rw[kX];omega)]at A;obtain⟨m',ba,ar⟩:=D.LY A h3;have du:OV (bytesOf b) k e out q G m' I:=by
            refine⟨by omega,ac,ch.trans M,?_⟩;unfold iU;rw[bq,cw];exact ar
           go_wp2_with fail;go_roundg m;case measure=>omega
           case rel=>exact⟨I,C, .inl ⟨ac,m',by omega,du⟩⟩
         ·have de:((I.err:Int)==0)=false:=aX.2 (by omega);have ce:I.err≠0/\I.err=e/\I.out=out:=by
           rcases an with⟨h9,_⟩|h9
           ·exact absurd h9 ac
           ·exact h9
          by_cases ae:j<n';all_goals
           go_wp2_with fail;go_roundg 0;case measure=>omega
           case rel=>exact⟨I,C, .inr ⟨rfl,ce⟩⟩
def isSlice (v:aK):Prop:=∃a n c,v= .slice a n c
def Mt (r:R (aD×aD))(x base:Nat)(b:bY)(s:XS)(w:aH)(c1 c2:aK)(s':XS)(w':aH):Prop:=
 j6 w' x base b s'/\dH x w s.v w' s.v/\
 match r with
 | .ok ab q=>s'={ s with at_:=q }/\∃C1 C2,c1= .slice (some (U C1 0)) ab.1.length ab.1.length/\c2= .slice (some (U C2 0)) ab.2.length ab.2.length/\Ready w' x C1 C2 s.v ab.1 ab.2
 | .no e=>e≠0/\isSlice c1/\isSlice c2/\∃a,a<=8*b.size/\s'={ s with err:=e,at_:=a }
 | .miss=>isSlice c1/\isSlice c2/\∃a,a<=8*b.size/\s'={ s with err:=3,at_:=a }
def oL:Prop:=
 ∀(x base:Nat) (b:bY) (s:XS) (w:aH),j6 w x base b s->s.err=0->
  Calls prog 144 #[E x] w fun r w'=>∃c1 c2 s',r= .returned (.tuple #[c1,c2])/\Mt (bW (bytesOf b) s.at_) x base b s w c1 c2 s' w'
def GD (x base:Nat)(c1 c2:aK)(d:isSlice c1)(f:isSlice c2)(b:bY)(s:XS)(w:aH)(h:j6 w x base b s)(l:s.err≠0):Calls prog 143 #[E x,c1,c2] w fun r w'=>r= .returned (.tuple #[])/\w'=w:=by
 obtain⟨a1,n1,k1,rfl⟩:=d;obtain⟨a2,n2,k2,rfl⟩:=f;obtain⟨_,_,j,_⟩:=h.cell;have i:((s.err:Int)==0)=false:=aX.2 (by omega);clear h;go_enter func143,ntmps143;go_wp2_with fail;go_loopg [6] 1 (fun g u wr=>wr=w);case atStart=>rfl
 case round=>
  have a:=hrel.symm;clear hrel;subst a;go_wp2_with fail;go_end0;exact⟨rfl,rfl⟩
def _root_.Go.dM.eZ.pos {s:GS}(h:eZ B k s e out q)(a:s.place≠3):1<=k:=by
 cases h
 ·exact absurd ‹_› a
 ·omega
 ·omega
 ·omega
structure MX (w wr:aH)(x base:Nat)(b:bY)(s s2:XS):Prop where
 most:s2.most=s.most
 name:s2.name=s.name
 room:s2.out.length<=s2.most
 H9:j6 wr x base b s2
 wrt:dH x w s.v wr s2.v
def zG (b:bY)(e:Nat)(out:aD)(q:Nat)(g:Nat)(last:Nat)(s2:XS):Prop:=
 (s2.err≠0/\s2.err=e/\s2.out=out)\/(s2.err=0/\∃G,eZ (bytesOf b) g G e out q/\G.out=s2.out/\G.most=s2.most/\((last=0/\G.place=0/\G.p=s2.at_)\/(last=1/\G.place=3/\G.p=(s2.at_+7)/8*8)))
def FQ {last:Bool}{s':XS}(h:rG (bytesOf b) k e out q last s'):∃g,(s'.err=0->g<k)/\zG b e out q g (if last then 1 else 0) s':=by
 rcases h with h|⟨j,u,i,hk,t,s,r,o⟩
 ·exact⟨0,fun l=>absurd l h.1, .inl h⟩
 ·refine⟨u,fun _=>hk, .inr ⟨j,i,t,s,r,?_⟩⟩;rcases o with⟨f,a,d⟩|⟨f,a,d⟩
  ·rw[f];exact .inl ⟨rfl,a,d⟩
  ·rw[f];exact .inr ⟨rfl,a,d⟩
def Om {s:XS}(h:j6 w x base b s)(hk:w.heap.size<=k):Off x s.v k:=⟨by have:=aO h.blk;omega,fun y=>by have:=(h.own.lt k y).2;omega⟩
def Dy {w3:aH}{a d:Nat}{s:XS}(h:j6 w x base b s)(j:w.heap.size<=a)(l:w.heap.size<=d)(r1:bA w3 a 234 (2*288) (iY (gP gK)))(o:bA w3 d 234 (2*32) (iY (gP fM))):Ready w3 x a d s.v gK fM:=by
 have f:gK.length=288:=by rw[kS,dP]
 have g:fM.length=32:=by unfold fM;rw[dQ]
 refine⟨by rw[qN,f];exact r1,by rw[qN,g];exact o,Om h j,Om h l,fun i=>by rw[kS];exact vX i,fun i=> ?_,by omega,by omega,?_,?_⟩
 ·unfold fM;rw[lY];split<;>simp
 ·unfold p9;rw[kS,CW,Bool.or_true]
 ·unfold p9 fM;rw[II,Bool.or_true]
def Pn {lb:Nat}(h:lb=bK B p)(d:lb<2):(if(bK B p==1)=true then 1 else 0)=lb:=by
 rw[<-h];have a:lb=0\/lb=1:=by omega
 rcases a with a|a<;>rw[a]<;>rfl
def MW (x base k e:Nat)(b:bY)(s:XS)(G:GS)(out:aD)(q:Nat)(w:aH)(hT:oL)(h:j6 w x base b s)(h0:s.err=0)(hm:s.most<=1048576)(br:s.out.length<=s.most)(hG:G.out=s.out/\G.most=s.most/\G.place=0/\G.p=s.at_)(hr:eZ (bytesOf b) k G e out q):Calls prog 111 #[E x] w fun r w'=>r= .returned (.tuple #[])/\∃s',s'.err=e/\s'.out=out/\(e=0->s'.at_=q/\q%8=0)/\s'.name=s.name/\j6 w' x base b s'/\dH x w s.v w' s'.v:=by
 have be:=hide (show MX w w x base b s s from⟨rfl,rfl,br,h,dH.refl _ _ _⟩);have aw:=hide (show zG b e out q k 0 s from .inr ⟨h0,G,hr,hG.1,hG.2.1, .inl ⟨rfl,hG.2.2.1,hG.2.2.2⟩⟩);go_enter func111,ntmps111;go_wp2_with fail;go_loopg [2] k (fun g l wr=>∃(la:Nat) (f:XS),l=V la/\la<=1/\MX w wr x base b s f/\zG b e out q g la f);case atStart=>exact⟨0,s,rfl,by omega,be.o,aw.o⟩
 case round=>
  obtain⟨la,f,rfl,bu,d,hrel⟩:=hrel;obtain⟨_,_,c2,_⟩:=d.H9.cell;rcases hrel with i|⟨F,Y,u,D,ad,ao⟩
  case inl=>
   have bs:((f.err:Int)==0)=false:=aX.2 (by have:=i.1;omega);have bl:la=0\/la=1:=(by omega);rcases bl with rfl|rfl;all_goals
    go_wp2_with fail;go_end0;exact⟨rfl,f,i.2.1,i.2.2,fun L=>absurd (i.2.1.trans L) i.1,d.name,d.H9,d.wrt⟩
  rw[F]at c2;rcases ao with⟨rfl,ag,A⟩|⟨rfl,ag,A⟩
  case inr=>
   have hd:e=0/\out=f.out/\q=(f.at_+7)/8*8:=by
    rcases u.inv with⟨_,Z,h2,h3⟩|⟨Z,_⟩|⟨Z,_⟩|⟨_,_,_,Z,_⟩
    ·exact⟨Z,by rw[h2,D],by rw[h3,A]⟩
    ·exact absurd ag Z
    ·exact absurd ag Z
    ·exact absurd ag Z
   go_wp2_with fail;apply(Fz x base b f wr d.H9).mono;rintro r w1 ⟨rfl,av,au⟩;have al:=hide (d.wrt.trans au);go_wp2_with fail;go_end0;exact⟨rfl,{ f with at_:=(f.at_+7)/8*8 },F.trans hd.1.symm,hd.2.1.symm,fun _=>⟨hd.2.2.symm,by have:=hd.2.2;omega⟩,d.name,av,al.o⟩
  have Z:Y.place≠1:=by omega
  have h2:Y.place≠2:=by omega
  have h3:Y.place≠3:=by omega
  have bt:=u.pos h3;have ay:=YL x base b f wr d.H9;go_wp2_with fail;apply ay.mono;rintro r w1 ⟨rfl,av,au⟩;have ah:=gD x base 2 b (p8 b f).2 w1 av (by omega);rw[(Xe b f).1]at ah;have al:=hide (d.wrt.trans au);go_wp2_with fail;apply ah.mono;rintro r w2 ⟨rfl,y,bc⟩;have H:=al.o.trans bc;have ae:=bytesOf_length b;have ar:Same b f Y:=⟨F,D.symm,ad.symm,by rw[d.most];exact hm,d.H9.there⟩
  have P:bM (bytesOf b) Y=kL (bytesOf b) Y:=by unfold bM;rw[aB Z,aB h2]
  by_cases Q:f.at_+3<=8*b.size;case neg=>
   have e3:(cB b (p8 b f).2 2).2={ f with at_:=8*b.size,err:=3 }:=EJ b f F ar.bits 1 2 (by omega);rw[e3]at y;unfold kL at P;rw[aB (by rw[A,ae];exact Q)]at P;obtain⟨he,ho⟩:=u.wN P h3;obtain⟨_,_,d2,_⟩:=y.cell;dsimp only at d2;have bv:=(pW b (p8 b f).2 2).1;generalize(cB b (p8 b f).2 2).1=y2 at*;generalize(p8 b f).1=y1 at*;go_wp2_with fail;refine aY (mD rfl _ _ _) rfl ?_;exact⟨rfl,{ f with at_:=8*b.size,err:=3 },he.symm,by rw[ho];exact D.symm,fun L=>by rw[he]at L;omega,d.name,y,H⟩
  have e1:p8 b f=(bK (bytesOf b) f.at_,{ f with at_:=f.at_+1 }):=by unfold p8;rw[aB (by omega),aA (by omega)]
  rw[e1]at y|-
  dsimp only at y|-
  rw[jH b { f with at_:=f.at_+1 } F 2 (by dsimp only;omega)]at y|-
  replace y:j6 w2 x base b { f with at_:=f.at_+3 }:=y;dsimp only;have an:=kQ (bytesOf b) f.at_;have bj:=bO (bytesOf b) (f.at_+1) 2;obtain⟨_,_,d2,_⟩:=y.cell;dsimp only at d2;rw[F]at d2;obtain⟨kd,ap⟩:=aP (aG (bytesOf b) (f.at_+1) 2);obtain⟨lb,aq⟩:=aP (bK (bytesOf b) f.at_);rw[<-ap]at bj|-
  rw[<-aq]at an|-
  have aa:=hide ap;have ak:=hide aq;clear bc ap aq e1;have bk:kd=0\/kd=1\/kd=2\/kd=3:=by omega
  rcases bk with rfl|rfl|rfl|rfl;focus
   have aj:=Gw x base gk e b { f with at_:=f.at_+3 } Y out q w2 y ⟨F,D.symm,ad.symm,by dsimp only;rw[d.most];exact hm,Q⟩ (by dsimp only;rw[A]) Z h2 h3 (by rw[A];exact aa.o.symm) u d.room;have ax:=hide aj;clear aj;go_wp2_with fail;apply ax.o.mono;rintro r w3 ⟨rfl,M,i,bo,bn,W,z,C⟩;obtain⟨g',af,j⟩:=FQ i;have az:(if(bK (bytesOf b) Y.p==1)=true then 1 else 0)=lb:=by
    rw[A,<-ak.o];have L:lb=0\/lb=1:=(by omega);rcases L with L|L<;>rw[L]<;>rfl
   rw[az]at j;have K:=hide (show MX w w3 x base b s M/\zG b e out q g' lb M from⟨⟨bn.trans d.most,bo.trans d.name,W,z,H.trans C⟩,j⟩)
  rotate_left;focus
   have J:=P;unfold kL at J;rw[aA (by rw[A,ae];exact Q),A,<-aa.o,aB (by omega),aA rfl]at J;obtain⟨m,bm,W⟩:=u.LY J h3;go_wp2_with fail;apply(Mc w2).mono;rintro r w3 ⟨C1,C2,rfl,bg,bh,bp,bq,bb⟩;have I:=JQ x base gk e C1 C2 b { f with at_:=f.at_+3 } { Y with last:=bK (bytesOf b) f.at_==1,place:=2,ls:=gK,ld:=fM,p:=f.at_+3 } out q w3 (y.step0 bb) ⟨F,D.symm,ad.symm,by dsimp only;rw[d.most];exact hm,Q⟩ (Dy y bg bh bp bq) m (by omega) (by unfold iU;dsimp only;rw[<-D];exact W) d.room;dsimp only at I;rw[show gK.length=288 by rw[kS,dP],show fM.length=32 by unfold fM;rw[dQ]]at I;have am:=hide (H.step0 bb);go_wp2_with fail;apply I.mono;rintro r w4 ⟨rfl,M,i,t⟩;obtain⟨g',af,j⟩:=FQ i;rw[Pn ak.o an]at j;have K:=hide (show MX w w4 x base b s M/\zG b e out q g' lb M from⟨⟨t.most.trans d.most,t.name.trans d.name,t.room,t.H9,am.o.trans t.wrt⟩,j⟩)
  rotate_left
  ·have J:=P;unfold kL at J;rw[aA (by rw[A,ae];exact Q),A,<-aa.o,aB (by omega),aB (by omega),aA rfl]at J;have X:=hT x base b { f with at_:=f.at_+3 } w2 y F;dsimp only at X;have bf:=hide X;go_wp2_with fail;apply bf.o.mono;rintro r w3 ⟨c1,c2,M,rfl,z,C,N⟩;have J:=J;generalize bW (bytesOf b) (f.at_+3)=rc at N J;rcases rc with⟨ab,p3⟩|e3|_
   ·obtain⟨rfl,C1,C2,rfl,rfl,ai⟩:=N;dsimp only at J C ai;obtain⟨m,bm,W⟩:=u.LY J h3;have I:=JQ x base gk e C1 C2 b { f with at_:=p3 } { Y with last:=bK (bytesOf b) f.at_==1,place:=2,ls:=ab.1,ld:=ab.2,p:=p3 } out q w3 z ⟨F,D.symm,ad.symm,by dsimp only;rw[d.most];exact hm,z.there⟩ ai m (by omega) (by unfold iU;dsimp only;rw[<-D];exact W) d.room;dsimp only at I;have ac:=hide I;have am:=hide (H.trans C);go_wp2_with fail;apply ac.o.mono;rintro r w4 ⟨rfl,M,i,t⟩;obtain⟨g',af,j⟩:=FQ i;rw[Pn ak.o an]at j;have K:=hide (show MX w w4 x base b s M/\zG b e out q g' lb M from⟨⟨t.most.trans d.most,t.name.trans d.name,t.room,t.H9,am.o.trans t.wrt⟩,j⟩);go_wp2_with fail;by_cases R:M.err=0
    ·go_roundg g';case measure=>exact af R
     case rel=>exact⟨lb,M,rfl,by omega,K.o.1,K.o.2⟩
    ·go_roundg 0;case measure=>omega
     case rel=>exact⟨lb,M,rfl,by omega,K.o.1,by
      rcases K.o.2 with L|⟨L,_⟩
      ·exact .inl L
      ·exact absurd L R⟩
   focus
    obtain⟨ba,S,T,a,ha,rfl⟩:=N;dsimp only at J C;obtain⟨he,ho⟩:=u.qQ _ _ J h3;have I:=GD x base c1 c2 S T b _ w3 z ba;obtain⟨a1,n1,k1,rfl⟩:=S;obtain⟨a2,n2,k2,rfl⟩:=T;have ac:=hide I;have K:=hide (show MX w w3 x base b s { f with at_:=a,err:=e3 }/\zG b e out q 0 lb { f with at_:=a,err:=e3 } from⟨⟨d.most,d.name,d.room,z,H.trans C⟩, .inl ⟨ba,he.symm,by rw[ho];exact D.symm⟩⟩)
   rotate_left;focus
    obtain⟨S,T,a,ha,rfl⟩:=N;dsimp only at J C;obtain⟨he,ho⟩:=u.wN J h3;have I:=GD x base c1 c2 S T b _ w3 z (by dsimp only;omega);obtain⟨a1,n1,k1,rfl⟩:=S;obtain⟨a2,n2,k2,rfl⟩:=T;have ac:=hide I;have K:=hide (show MX w w3 x base b s { f with at_:=a,err:=3 }/\zG b e out q 0 lb { f with at_:=a,err:=3 } from⟨⟨d.most,d.name,d.room,z,H.trans C⟩, .inl ⟨by dsimp only;omega,he.symm,by rw[ho];exact D.symm⟩⟩)
   all_goals
    go_wp2_with fail;apply ac.o.mono;rintro r w4 ⟨rfl,rfl⟩;go_wp2_with fail;go_roundg 0;case measure=>omega
    case rel=>exact⟨lb,_,rfl,by omega,K.o.1,K.o.2⟩
  ·have J:=P;unfold kL at J;rw[aA (by rw[A,ae];exact Q),A,<-aa.o,aB (by omega),aB (by omega),aB (by omega)]at J;obtain⟨he,ho⟩:=u.qQ _ _ J h3;go_wp2_with fail;apply(iK x base 5 b { f with at_:=f.at_+3 } w2 y).mono;rintro r w3 ⟨rfl,z,C⟩;replace C:dH x w2 f.v w3 f.v:=C;replace z:j6 w3 x base b { f with at_:=f.at_+3,err:=if f.err=0 then 5 else f.err }:=z;rw[aA F]at z;have K:=hide (show MX w w3 x base b s { f with at_:=f.at_+3,err:=5 }/\zG b e out q 0 lb { f with at_:=f.at_+3,err:=5 } from⟨⟨d.most,d.name,d.room,z,H.trans C⟩, .inl ⟨by simp,he.symm,by rw[ho];exact D.symm⟩⟩);go_wp2_with fail;go_roundg 0;case measure=>omega
   case rel=>exact⟨lb,_,rfl,by omega,K.o.1,K.o.2⟩
  all_goals
   go_wp2_with fail;by_cases R:M.err=0
   ·go_roundg g';case measure=>exact af R
    case rel=>exact⟨lb,M,rfl,by omega,K.o.1,K.o.2⟩
   ·go_roundg 0;case measure=>omega
    case rel=>exact⟨lb,M,rfl,by omega,K.o.1,by
     rcases K.o.2 with L|⟨L,_⟩
     ·exact .inl L
     ·exact absurd L R⟩
def Bad {α:Type}(r:R α)(e:Nat):Prop:=(r= .no e/\e≠0)\/(r= .miss/\e=3)
def Bad.ne {α:Type}{r:R α}(h:Bad r e):e≠0:=by rcases h with h|h<;>omega
def Va {r:R (aD×aD)}(h:Bad r e){s:XS}{w':aH}{c1 c2:aK}{a:Nat}(d:isSlice c1)(f:isSlice c2)(g:a<=8*b.size)(j:j6 w' x base b { s with err:=e,at_:=a })(i:dH x w s.v w' s.v):Mt r x base b s w c1 c2 { s with err:=e,at_:=a } w':=by
 rcases h with⟨rfl,l⟩|⟨rfl,rfl⟩
 ·exact⟨j,i,l,d,f,a,g,rfl⟩
 ·exact⟨j,i,d,f,a,g,rfl⟩
def av9 (b:bY)(s:XS)(a:s.err=0)(i:s.at_<=8*b.size):(s.at_+14<=8*b.size/\cB b (cB b (cB b s 5).2 5).2 4=(aG (bytesOf b) (s.at_+10) 4,{ s with at_:=s.at_+14 })/\(cB b s 5).1=aG (bytesOf b) s.at_ 5/\(cB b (cB b s 5).2 5).1=aG (bytesOf b) (s.at_+5) 5)\/(¬s.at_+14<=8*b.size/\(cB b (cB b (cB b s 5).2 5).2 4).2={ s with at_:=8*b.size,err:=3 }):=by
 by_cases g:s.at_+5<=8*b.size
 ·rw[jH b s a 5 g];dsimp only;by_cases j:s.at_+10<=8*b.size
  ·rw[jH b { s with at_:=s.at_+5 } a 5 (by dsimp only;omega)];dsimp only;by_cases f:s.at_+14<=8*b.size
   ·refine .inl ⟨f,?_,rfl,rfl⟩;exact jH b { s with at_:=s.at_+10 } a 4 (by dsimp only;omega)
   ·exact .inr ⟨f,j3 b { s with at_:=s.at_+10 } a (by dsimp only;omega) 4 (by dsimp only;omega)⟩
  ·have e:=j3 b { s with at_:=s.at_+5 } a (by dsimp only;omega) 5 (by dsimp only;omega);rw[e,oD _ _ (by dsimp only;omega)];exact .inr ⟨by omega,rfl⟩
 ·have e:=j3 b s a i 5 (by omega);have d:=fun k=>oD b { s with at_:=8*b.size,err:=3 } (by show(3:Nat)≠0;omega) k;rw[e,d,d];exact .inr ⟨by omega,rfl⟩
structure Well (b:bY)(s:XS)(m f c:Nat):Prop where
 there:s.at_+14<=8*b.size
 m_:m=aG (bytesOf b) s.at_ 5+257
 f_:f=aG (bytesOf b) (s.at_+5) 5+1
 c_:c=aG (bytesOf b) (s.at_+10) 4+4
 ml:m<=286
 fl:f<=30
def Ill (b:bY)(s s2:XS):Prop:=∃e a,Bad (bW (bytesOf b) s.at_) e/\a<=8*b.size/\s2={ s with err:=e,at_:=a }
def Pj (b:bY)(s:XS)(h:¬s.at_+14<=8*b.size):bW (bytesOf b) s.at_= .miss:=by unfold bW;rw[bytesOf_length,aB h]
def ah8 (b:bY)(s:XS)(h:s.at_+14<=8*b.size)(a:286<aG (bytesOf b) s.at_ 5+257\/30<aG (bytesOf b) (s.at_+5) 5+1):bW (bytesOf b) s.at_= .no 7:=by unfold bW;rw[bytesOf_length,aA h];dsimp only;rw[aA a]
def Well.rC {s:XS}{f:Nat}(h:Well b s m f c):bW (bytesOf b) s.at_=if s.at_+14+3*c<=8*b.size then(if fF (bD (bytesOf b) (s.at_+14) c)=true then(match NM (aI (bD (bytesOf b) (s.at_+14) c)) (bytesOf b) (m+f) (s.at_+14+3*c)with| .ok row q=>pI row m q| .no e=> .no e| .miss=> .miss)else .no 7)else .miss:=by unfold bW;rw[bytesOf_length,aA h.there];dsimp only;rw[<-h.m_,<-h.f_,<-h.c_,aB (by have:=h.ml;have:=h.fl;omega)];rfl
def az6 (b:bY)(s:XS)(l:s.err=0)(t:s.at_<=8*b.size)(v1 a:Nat)(p3:Nat×XS)(i:v1=(cB b s 5).1)(j:a=(cB b (cB b s 5).2 5).1)(e3:p3=cB b (cB b (cB b s 5).2 5).2 4):(p3.2={ s with at_:=s.at_+14 }/\Well b s (v1+257) (a+1) (p3.1+4)/\¬(286<v1+257\/30<a+1))\/(¬(286<v1+257\/30<a+1)/\Ill b s p3.2)\/((286<v1+257\/30<a+1)/\Ill b s { p3.2 with err:=if p3.2.err=0 then 7 else p3.2.err }):=by
 rcases av9 b s l t with⟨d,g,o,r⟩|⟨d,g⟩
 ·rw[g]at e3;rw[o]at i;rw[r]at j;subst e3;dsimp only;by_cases f:286<v1+257\/30<a+1
  ·refine .inr (.inr ⟨f,7,s.at_+14, .inl ⟨ah8 b s d (by rw[<-i,<-j];exact f),by omega⟩,d,?_⟩);rw[aA l]
  ·exact .inl ⟨rfl,⟨d,by rw[i],by rw[j],rfl,by omega,by omega⟩,f⟩
 ·rw[<-e3]at g;by_cases f:286<v1+257\/30<a+1
  ·refine .inr (.inr ⟨f,3,8*b.size, .inr ⟨Pj b s d,rfl⟩,aS _,?_⟩);rw[g];rfl
  ·exact .inr (.inl ⟨f,3,8*b.size, .inr ⟨Pj b s d,rfl⟩,aS _,g⟩)
def FW (b:bY)(s:XS)(m f c k:Nat)(F:Nat->Nat)(s2:XS):Prop:=
 (s2={ s with at_:=s.at_+14+3*k }/\Well b s m f c/\s.at_+14+3*k<=8*b.size/\F=wI (bytesOf b) (s.at_+14) k)\/Ill b s s2
def He {s:XS}{f:Nat}{F:Nat->Nat}{g:XS}(j:s.err=0)(hk:k<c)(h:FW b s m f c k F g):FW b s m f c (k+1) (fun i=>if i=bP[k]?.getD 0 then(cB b g 3).1 else F i) (cB b g 3).2:=by
 rcases h with⟨rfl,l,d,rfl⟩|⟨e,a,o,r,rfl⟩
 ·by_cases t:s.at_+14+3*k+3<=8*b.size
  ·rw[jH b { s with at_:=s.at_+14+3*k } j 3 t];exact .inl ⟨rfl,l,by omega,by funext i;rw[wI]⟩
  ·rw[j3 b { s with at_:=s.at_+14+3*k } j d 3 (by dsimp only;omega)];refine .inr ⟨3,8*b.size, .inr ⟨?_,rfl⟩,aS _,rfl⟩;rw[l.rC,aB (by omega)]
 ·rw[oD _ _ (by exact o.ne)];exact .inr ⟨e,a,o,r,rfl⟩
def Lc {D:d9}{row:aD}(h:oK D B n p row= .no e):e≠0:=by
 unfold oK at h;split at h
 ·rename_i d hs;have:=oU hs;cases h;omega
 ·cases h
 ·split at h
  ·cases h;omega
  ·split at h
   ·rename_i d a;unfold fO at a;split at a
    ·cases a
    ·split at a
     ·split at a<;>cases a
     ·split at a
      ·split at a<;>cases a
      ·split at a<;>cases a
   ·cases h
   ·split at h
    ·cases h;omega
    ·cases h
def Ja {D:d9}{row a:aD}(h:oK D B n p row= .ok a q):row.length<a.length/\a.length<=n:=by
 unfold oK at h;split at h
 ·cases h
 ·cases h
 ·rename_i s g hs;split at h
  ·cases h
  ·split at h
   ·cases h
   ·cases h
   ·rename_i lt q' d;have f:=(TW d (oV hs).2.1).2.2;split at h
    ·cases h
    ·cases h;rw[aN,dQ];omega
def Mx (D:d9)(B:aD)(n k p:Nat)(row:aD)(h:n<=row.length):iC D B n k p row= .ok row p:=by
 cases k with
 |zero=>rfl
 |succ k=>rw[iC,aA h]
def Ka (D:d9)(b:bY)(s:XS)(n p0 g:Nat)(row:aD)(s2:XS):Prop:=
 (∃p2,p2<=8*b.size/\s2={ s with at_:=p2 }/\iC D (bytesOf b) n g p2 row=NM D (bytesOf b) n p0/\n<=row.length+g/\row.length<=n)\/∃e a,Bad (NM D (bytesOf b) n p0) e/\a<=8*b.size/\s2={ s with err:=e,at_:=a }
def Step.past {S:Nat->Prop}{w2:aH}{lb:Nat}(h:Step S w w1)(d:w.heap.size<=lb)(k:Step (fun k=>S k\/lb<=k) w1 w2):Step S w w2:=h.trans' k fun i hi a=>a.elim (fun y=>y) (fun y=>by omega)
structure IQ (w w':aH)(b:bY)(e:Nat)(out:aD)(q:Nat)(s':XS):Prop where
 err:s'.err=e
 out:s'.out=out
 used:e=0->s'.at_=q/\q%8=0
 name:s'.name=⟨#[]⟩
 H9:j6 w' (w.heap.size+1) (w.heap.size+1+1) b s'
 res:w'.heap[w.heap.size]? =some (.cells #[V 0, .slice none 0 0,V 0, .string ⟨#[]⟩] 45 (0,0))
 step:O w w'
def Wz (n e:Nat)(most M:Int)(b:bY)(out:aD)(q:Nat)(w:aH)(F:oL)(H:b.size<=140737488351232)(I:eZ (bytesOf b) n (rQ (asked most)) e out q)(D:M=(asked most:Nat)):Calls prog 111 #[.pointer (some ⟨w.heap.size+1,0,none⟩)] ((w.alloc (.cells #[V 0, .slice none 0 0,V 0, .string ⟨#[]⟩] 45)).alloc (.cells #[.string b,V 0,V 0, .slice none 0 0,V M, .string ⟨#[]⟩] 167)) fun r w'=>r= .returned (.tuple #[])/\∃s',IQ w w' b e out q s':=by
 obtain⟨w1,a⟩:=aP (w.alloc (.cells #[V 0, .slice none 0 0,V 0, .string ⟨#[]⟩] 45));have l:w1.heap.size=w.heap.size+1:=by rw[a];simp
 have o:w1.heap[w.heap.size]? =some (.cells #[V 0, .slice none 0 0,V 0, .string ⟨#[]⟩] 45 (0,0)):=by rw[a];exact aR _ _
 have s:O w w1:=by rw[a];exact(aU _ _).alloc _
 rw[<-a];obtain⟨w2,d⟩:=aP (w1.alloc (.cells #[.string b,V 0,V 0, .slice none 0 0,V M, .string ⟨#[]⟩] 167));have J:w2.heap.size=w.heap.size+1+1:=by rw[d];simp[l]
 have j:O w1 w2:=by rw[d];exact(aU _ _).alloc _
 have t:w2.heap[w.heap.size+1]? =some (.cells #[.string b,V 0,V 0, .slice none 0 0,V M, .string ⟨#[]⟩] 167 (0,0)):=by rw[d,<-l];exact aR _ _
 rw[<-d]
 have G:j6 w2 (w.heap.size+1) (w.heap.size+1+1) b ⟨0,0, .slice none 0 0,[],asked most,⟨#[]⟩⟩:=
  ⟨by rw[t,D];rfl,jJ _ _ _ _,by omega,by omega,iZ _,H⟩
 apply(MW _ _ n e b _ (rQ (asked most)) out q w2 F G rfl (vW most) (iZ _) ⟨rfl,rfl,rfl,rfl⟩ I).mono;rintro r w3 ⟨rfl,s',v,y,z,A,C,u⟩;have g:∀k,k<w.heap.size+1->¬(k=w.heap.size+1\/(Value.slice none 0 0).ownBlock=some k):=fun k hk f=>by
  rcases f with f|f
  ·omega
  ·simp[Value.ownBlock]at f
 exact⟨rfl,s',v,y,z,A,C,u.step.at_ (j.at_ o (fun x=>x)) (g _ (by omega)),(s.trans j).trans' u.step (fun i hi f=>(g i (by omega) f).elim)⟩
def IQ.row {s':XS}(h:IQ w w1 b e out q s'){g:Option Addr}{i len:Nat}(u:s'.v= .slice g len i)(j l r s:aK)(o:Obj):((((((w1.setCell (U w.heap.size 0) j).setCell (U w.heap.size 1) l).setCell (U w.heap.size 2) r).setCell (U w.heap.size 3) s).alloc o).drew).ownsRow w.heap.size 5 1 (.slice g len i) out.length (jR out):=by
 have f:=h.H9.own;rw[u,h.out]at f;have d:(Value.slice g len i).ownBlock≠some w.heap.size:=fun hk=>by
  have:=(f.lt _ hk).1;omega
 have t:=bH f (show w.heap.size<=w.heap.size+1+1 by omega);exact(((mI (mI (mI (mI t (a:=(U w.heap.size 0)) d j) (a:=(U w.heap.size 1)) d l) (a:=(U w.heap.size 2)) d r) (a:=(U w.heap.size 3)) d s))).alloc o
def IQ.far {s':XS}(h:IQ w w1 b e out q s')(a d f g:aK)(o:Obj):O w (((((w1.setCell (U w.heap.size 0) a).setCell (U w.heap.size 1) d).setCell (U w.heap.size 2) f).setCell (U w.heap.size 3) g).alloc o).drew:=(((((h.step.aZ (aS _) _).aZ (aS _) _).aZ (aS _) _).aZ (aS _) _).alloc _).drew
def YO (n e:Nat)(most:Int)(b:bY)(out:aD)(q:Nat)(w:aH)(H:oL)(T:b.size<=140737488351232)(I:eZ (bytesOf b) n (rQ (asked most)) e out q):Calls prog 67 #[V 0, .string b,V most] w fun r w'=>∃P,r= .returned (.agg #[V e,P,V (CO 0 e q:Nat), .string ⟨#[]⟩])/\w'.ownsRow w.heap.size 5 1 P out.length (jR out)/\O w w':=by
 have HB:=hide (fun M S=>Wz n e most M b out q w H T I S);clear I H;have g:(most<0/\(0:Int)=(asked most:Nat))\/(¬most<0/\1048576<most/\(1048576:Int)=(asked most:Nat))\/(¬most<0/\¬1048576<most/\most=(asked most:Nat)):=by
  by_cases f:most<0
  ·exact .inl ⟨f,by unfold asked;rw[aA f];rfl⟩
  ·by_cases i:1048576<most
   ·exact .inr (.inl ⟨f,i,by unfold asked;rw[aB f,aA i];rfl⟩)
   ·exact .inr (.inr ⟨f,i,by unfold asked;rw[aB f,aB i];omega⟩)
 go_enter func67,ntmps67;rcases g with⟨f,s⟩|⟨f,i,s⟩|⟨f,i,s⟩
 all_goals
  have D:=hide (HB.o _ s);clear HB s;go_wp2_with fail;apply D.o.mono;rintro r w1 ⟨rfl,s',a⟩;clear D;obtain⟨Y,c1,c2,c3,c4,Q⟩:=a.H9.cell;obtain⟨y,z,u⟩:=a.H9.vQ;rw[u]at c3;rw[a.name]at Q;rw[a.err]at c2;have l:=aO a.res;have X:=aO a.H9.blk;have J:w1.cell? (U w.heap.size 0)=some (V 0):=aC a.res 0 _ rfl;have K:w1.cell? (U w.heap.size 1)=some (.slice none 0 0):=aC a.res 1 _ rfl;have L:w1.cell? (U w.heap.size 2)=some (V 0):=aC a.res 2 _ rfl;have N:w1.cell? (U w.heap.size 3)=some (.string ⟨#[]⟩):=aC a.res 3 _ rfl;have Z:=aJ a.res 0;have g1:=aJ a.res 1;have g2:=aJ a.res 2;have g3:=aJ a.res 3;obtain⟨len,d⟩:=aP s'.out.length;rw[<-d]at c3 u;have F:=hide d;have G:=hide u;have j:=hide a;have W:=a.H9.there;clear a d u;by_cases t:e=0
  ·have C:((e:Int)==0)=true:=dI.2 (by omega);go_wp2_with fail;go_region;go_wp2_with fail;refine aY (v:= .agg #[V 0, .slice y len z,V ((s'.at_:Int)/8), .string ⟨#[]⟩]) (by simp[results,results67,go_sem,J,K,L,N,l]) rfl ⟨.slice y len z,?_,j.o.row G.o _ _ _ _ _,j.o.far _ _ _ _ _⟩;have R:=j.o.used t;have A:CO 0 e q=q/8:=(by unfold CO;rw[aA t];omega);rw[A,t,show((s'.at_:Int)/8)=((q/8:Nat):Int) by rw[R.1];omega];rfl
  ·have C:((e:Int)==0)=false:=aX.2 (by omega);go_wp2_with fail;go_region;go_wp2_with fail;refine aY (v:= .agg #[V e, .slice y len z,V 0, .string ⟨#[]⟩]) (by simp[results,results67,go_sem,J,K,L,N,l]) rfl ⟨.slice y len z,?_,j.o.row G.o _ _ _ _ _,j.o.far _ _ _ _ _⟩;have A:CO 0 e q=0:=(by unfold CO;rw[aB t]);rw[A];rfl
end Go.Proofs.YtbpahojchgpdnaaGreatDoor
