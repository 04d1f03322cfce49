import Derived.Test.YtbpahojchgpdnaaGreatDoorLinked
set_option maxRecDepth 20000
set_option maxHeartbeats 4000000
set_option linter.all false
namespace Go.Proofs.YtbpahojchgpdnaaGreatDoor
open Go.RowKit Go.dM Go.Proofs.Tryz
variable {base c e k m n p q x:Nat} {B out:aD} {w w1:aH} {b:bY}
def Du (x base:Nat)(j:aK)(g:∃a n c,j= .slice a n c)(b:bY)(s:XS)(w:aH)(h:j6 w x base b s)(o:s.err≠0):Calls prog 168 #[E x,j] w fun r w'=>r= .returned (nat 0)/\j6 w' x base b s/\dH x w s.v w' s.v:=by
 obtain⟨a,n,c,rfl⟩:=g;have f:O w (w.alloc (.cells #[V 0,V 0] 234)):=(aU _ _).alloc _;have d:=h.step0 f;have i:=(dH.refl x w s.v).step0 f;obtain⟨_,_,c2,_⟩:=d.cell;have l:((s.err:Int)==0)=false:=aX.2 (by omega);go_enter func168,ntmps168;go_wp2_with fail;go_loopg [6] 1 (fun k u wr=>wr=w.alloc (.cells #[V 0,V 0] 234));case atStart=>rfl
 case round=>
  subst hrel;go_wp2_with fail;go_ret;exact⟨rfl,d,i⟩
def iU (G:GS)(s:XS):GS:={ G with place:=2,out:=s.out,p:=s.at_ }
def OV (B:aD)(k e:Nat)(out:aD)(q:Nat)(G:GS)(m:Nat)(s2:XS):Prop:=m<k/\s2.err=0/\s2.most=G.most/\eZ B m (iU G s2) e out q
structure wE (w wr:aH)(x base:Nat)(b:bY)(s s2:XS):Prop where
 most:s2.most=s.most
 name:s2.name=s.name
 room:s2.out.length<=s2.most
 xat:j6 wr x base b s2
 wrt:dH x w s.v wr s2.v
def Z9 (out:aD)(a n i:Nat)(r:1<=a)(g:a<=out.length)(hi:i<n):(out++(copied out a n).take i)[out.length+i-a]?.getD 0=(copied out a n)[i]?.getD 0:=by
 have o:=kX out a n;have d:∀j,j<n->(copied out a n)[j]?.getD 0=out[out.length-a+j%a]?.getD 0:=fun j l=>by simp[copied,l]
 rw[d i hi];by_cases f:i<a
 ·rw[jA (by omega),kC f,show out.length+i-a=out.length-a+i by omega]
 ·rw[kZ (by omega),show out.length+i-a-out.length=i-a by omega,jQ (by omega),d (i-a) (by omega)];have:(i-a)%a=i%a:=by
   conv=>rhs;rw[show i=(i-a)+a*1 by omega]
   rw[Nat.add_mul_mod_self_left]
  rw[this]
def Bl (e:Nat)(out:aD)(s2:XS)(q6 dist n j:Nat)(s7:XS):Prop:=
 (s7.err=0/\s7.at_=q6/\s7.out=s2.out++(copied s2.out dist n).take j)\/(s7.err≠0/\s7.err=e/\s7.out=out)
def an2 {G:GS}{d f:XS}{r a j:Nat}(y:aK)(h:Bl e out d r a n j f)(A:f.err=0)(I:1<=a)(v:a<=d.out.length)(P:j<n)(H:d.most=G.most)(Q:f.most=d.most)(s:f.out.length<=f.most)(D:c=f.out[f.out.length-a]?.getD 0)(g:eZ B m (iU G d) e out q)(t:bM B (iU G d)=mM (iU G d) (copied d.out a n) r):Bl e out d r a n (j+1) (qR c f y)/\(qR c f y).out.length<=(qR c f y).most:=by
 have K:=kX d.out a n;rcases h with⟨_,L,o⟩|⟨M,_⟩
 case inr=>exact absurd A M
 have l:f.out.length=d.out.length+j:=by rw[o,aN,dF,K];omega
 have z:c=(copied d.out a n)[j]?.getD 0:=by
  rw[D,l,o];exact Z9 d.out a n j I v P
 unfold qR;rw[aB (by omega)];by_cases i:f.out.length<f.most
 ·rw[aA i];refine⟨.inl ⟨A,L,?_⟩,by dsimp only;rw[aN,oH];omega⟩;dsimp only;rw[o,dB,z,LB (by omega),bV (by omega)];rfl
 ·rw[aB i];have C:(iU G d).place≠3:=by unfold iU;simp
  unfold mM at t;have N:(iU G d).out=d.out:=rfl;have F:(iU G d).most=G.most:=rfl;rw[N,F,aB (by omega)]at t;obtain⟨J,u⟩:=g.qQ _ _ t C;refine⟨.inr ⟨by simp,J.symm,?_⟩,s⟩;dsimp only;rw[u,o,show G.most-d.out.length=j by omega]
structure Ready (w:aH)(x C1 C2:Nat)(v:aK)(ls ld:aD):Prop where
 c1:qN w C1 ls
 c2:qN w C2 ld
 o1:Off x v C1
 o2:Off x v C2
 l1:∀i:Nat,ls[i]?.getD 0<=15
 l2:∀i:Nat,ld[i]?.getD 0<=15
 n1:ls.length<=1000
 n2:ld.length<=1000
 f1:p9 ls=true
 f2:p9 ld=true
def Ready.wrt {w':aH}{d f:Nat}{v g:aK}{ls ld:aD}(h:Ready w x d f v ls ld)(a:dH x w v w' g):Ready w' x d f g ls ld:=⟨h.c1.wrt h.o1 a,h.c2.wrt h.o2 a,h.o1.wrt h.c1.lt a,h.o2.wrt h.c2.lt a,h.l1,h.l2,h.n1,h.n2,h.f1,h.f2⟩
def JQ (x base k e C1 C2:Nat)(b:bY)(s:XS)(G:GS)(out:aD)(q:Nat)(w:aH)(h:j6 w x base b s)(hS:Same b s G)(hR:Ready w x C1 C2 s.v G.ls G.ld)(k1:Nat)(dr:k1<k)(hr:eZ (bytesOf b) k1 (iU G s) e out q)(dh:s.out.length<=s.most):Calls prog 143 #[E x, .slice (some (U C1 0)) G.ls.length G.ls.length, .slice (some (U C2 0)) G.ld.length G.ld.length] w fun r w'=>r= .returned (.tuple #[])/\∃s',rG (bytesOf b) k e out q G.last s'/\wE w w' x base b s s':=by
 have cq:=bytesOf_length b;have au:=hS.lim;have dn:=hide (show wE w w x base b s s from⟨rfl,rfl,dh,h,dH.refl _ _ _⟩);have bc:=hide (show OV (bytesOf b) k e out q G k1 s from⟨dr,hS.err,hS.most,hr⟩);go_enter func143,ntmps143;go_wp2_with fail;go_loopg [6] (k1+1) (fun g u wr=>∃f,wE w wr x base b s f/\((f.err=0/\∃m,m+1=g/\OV (bytesOf b) k e out q G m f)\/(g=0/\f.err≠0/\f.err=e/\f.out=out)));case atStart=>exact⟨s,dn.o, .inl ⟨bc.o.2.1,k1,rfl,bc.o⟩⟩
 case round=>
  obtain⟨f,l,bn⟩:=hrel;obtain⟨_,_,c2,_⟩:=l.xat.cell;rcases bn with⟨H,m,ea,er,_,M,D⟩|⟨eh,H,dp,db⟩
  case inr=>
   have dl:((f.err:Int)==0)=false:=aX.2 (by omega);have HE:=hide (show rG (bytesOf b) k e out q G.last f from .inl ⟨H,dp,db⟩);go_wp2_with fail;go_end0;exact⟨rfl,f,HE.o,l⟩
  rw[H]at c2;have N:=hR.wrt l.wrt;have A:bM (bytesOf b) (iU G f)=uF (bytesOf b) (iU G f):=by
   unfold bM;rw[aB (show¬(iU G f).place=1 by unfold iU;simp),aA (show(iU G f).place=2 from rfl)]
  have h3:(iU G f).place≠3:=by unfold iU;simp
  have cf:=BF x base C1 G.ls b f wr l.xat N.c1 N.o1 N.l1 N.n1 N.f1 H;unfold uF at A;have cx:(iU G f).ls=G.ls:=rfl;have ep:(iU G f).p=f.at_:=rfl;have eo:(iU G f).out=f.out:=rfl;rw[cx,ep,eo]at A;go_wp2_with fail;apply cf.mono;rintro r w3 ⟨y,s3,rfl,al,Z,ba,_⟩;cases hrs:lC (aI G.ls) (bytesOf b) f.at_ with
  |no e1=>
   rw[hrs]at al A;obtain⟨_,a,ha,ay⟩:=al;have bx:=oU hrs;obtain⟨X,R⟩:=D.qQ _ _ A h3;subst ay;obtain⟨_,_,d2,_⟩:=Z.cell;dsimp only at d2;subst bx;have P:=hide (show rG (bytesOf b) k e out q G.last { f with err:=9,at_:=a }/\wE w w3 x base b s { f with err:=9,at_:=a } from⟨.inl ⟨by simp,X.symm,R.symm⟩,⟨l.most,l.name,l.room,Z,l.wrt.trans ba⟩⟩);go_wp2_with fail;refine aY (mD rfl _ _ _) rfl ?_;exact⟨rfl,_,P.o.1,P.o.2⟩
  |miss=>
   rw[hrs]at al A;obtain⟨_,a,ha,ay⟩:=al;obtain⟨X,R⟩:=D.wN A h3;subst ay;obtain⟨_,_,d2,_⟩:=Z.cell;dsimp only at d2;have P:=hide (show rG (bytesOf b) k e out q G.last { f with err:=3,at_:=a }/\wE w w3 x base b s { f with err:=3,at_:=a } from⟨.inl ⟨by simp,X.symm,R.symm⟩,⟨l.most,l.name,l.room,Z,l.wrt.trans ba⟩⟩);go_wp2_with fail;refine aY (mD rfl _ _ _) rfl ?_;exact⟨rfl,_,P.o.1,P.o.2⟩
  |ok c q3=>
   have cj:=oV hrs;have eg:=YS N.n1 _ _ cj.2.2.2;rw[hrs]at al A;obtain⟨ch,ay⟩:=al;rw[ch];rw[ch]at*;replace A:bM (bytesOf b) (iU G f)=if c<256 then mM (iU G f) [c] q3 else if c=256 then .go ((iU G f).ended q3)else gCopy (bytesOf b) (iU G f) c q3:=A
   subst ay;obtain⟨_,_,d2,_⟩:=Z.cell;dsimp only at d2;rw[H]at d2;have bb:=hide (l.wrt.trans ba);have da:q3<=8*b.size:=(by have:=cj.2.1;omega);have dq:f.most<=1048576:=(by rw[l.most];exact au);have F:=l.room;by_cases an:c<256
   ·rw[aA an]at A;have ax:=QG x base c b { f with at_:=q3 } w3 Z dq;have cy:((c:Int)==256)=false:=aX.2 (by omega);go_wp2_with fail;apply ax.mono;rintro r w4 ⟨rfl,v',aa,Y⟩;have A:=A;unfold mM at A;have aj:∃s4,wE w w4 x base b s s4/\((s4.err=0/\∃m',m'+1=m/\OV (bytesOf b) k e out q G m' s4)\/(s4.err≠0/\s4.err=e/\s4.out=out)):=by
     refine⟨qR c { f with at_:=q3 } v',⟨(sQ _ _ _).1.trans l.most,(sQ _ _ _).2.trans l.name,?_,aa,bb.o.trans Y⟩,?_⟩
     ·unfold qR;rw[aB (by dsimp only;omega)];split
      ·rename_i ac;dsimp only at ac|-
       rw[aN,oH];omega
      ·exact F
     ·unfold qR;rw[aB (by dsimp only;omega)];by_cases ac:f.out.length<f.most
      ·rw[aA (by dsimp only;exact ac)];rw[aA (by unfold iU;simp;omega)]at A;obtain⟨m',az,aq⟩:=D.LY A h3;exact .inl ⟨H,m',by omega,by omega,H,M,aq⟩
      ·rw[aB (by dsimp only;exact ac)];rw[aB (by unfold iU;simp;omega)]at A;obtain⟨X,R⟩:=D.qQ _ _ A h3;refine .inr ⟨by simp,X.symm,?_⟩;rw[R];unfold iU;dsimp only;have:G.most-f.out.length=0:=(by omega);rw[this];simp
    go_wp2_with fail;obtain⟨s4,cg,du⟩:=aj;rcases du with⟨dw,m',az,dg⟩|h4
    ·go_roundg m;case measure=>omega
     case rel=>exact⟨s4,cg, .inl ⟨dw,m',az,dg⟩⟩
    ·go_roundg 0;case measure=>omega
     case rel=>exact⟨s4,cg, .inr ⟨rfl,h4⟩⟩
   by_cases h6:c=256
   ·subst h6;rw[aB an,aA rfl]at A;obtain⟨m',az,aq⟩:=D.LY A h3;have P:=hide (show rG (bytesOf b) k e out q G.last { f with at_:=q3 } from TB aq k (by omega) H rfl M.symm rfl);go_wp2_with fail;refine aY (mD rfl _ _ _) rfl ?_;exact⟨rfl,{ f with at_:=q3 },P.o,⟨l.most,l.name,F,Z,bb.o⟩⟩
   rw[aB an,aB h6]at A;have cy:((c:Int)==256)=false:=aX.2 (by omega);by_cases be:285<c
   ·have J:gCopy (bytesOf b) (iU G f) c q3= .no 9 f.out:=by
     unfold gCopy eF;rw[aA be];rfl
    rw[J]at A;obtain⟨X,R⟩:=D.qQ _ _ A h3;go_wp2_with fail;apply(iK x base 9 b { f with at_:=q3 } w3 Z).mono;rintro r w4 ⟨rfl,aa,Y⟩;dsimp only at aa Y;rw[aA H]at aa;have dt:=hide (bb.o.trans Y);go_wp2_with fail;refine aY (mD rfl _ _ _) rfl ?_;exact⟨rfl,{ f with at_:=q3,err:=9 }, .inl ⟨by simp,X.symm,R.symm⟩,⟨l.most,l.name,F,aa,dt.o⟩⟩
   have cm:=Bc x base c b { f with at_:=q3 } w3 Z H (by omega) (by omega);have ei:¬(285:Int)<(c:Int):=(by omega);have cp:=N.wrt ba;go_wp2_with fail;apply cm.mono;rintro r w4 ⟨n,s4,rfl,ai,aa,Y⟩;replace Y:dH x w3 f.v w4 f.v:=Y;have S:=cp.wrt Y;have bh:=bb.o.trans Y;cases hrl:eF (bytesOf b) q3 c with
   |no e1=>
    exfalso;unfold eF at hrl;rw[aB be]at hrl;split at hrl
    ·cases hrl
    ·split at hrl
     ·cases hrl
     ·split at hrl<;>cases hrl
   |miss=>
    rw[hrl]at ai;obtain⟨_,a,ha,bw⟩:=ai;subst bw;have J:gCopy (bytesOf b) (iU G f) c q3= .miss:=(by unfold gCopy;rw[hrl]);have A:=A;rw[J]at A;obtain⟨X,R⟩:=D.wN A h3;go_wp2_with fail;apply(Du x base _ ⟨_,_,_,rfl⟩ b _ w4 aa (by simp)).mono;rintro r w5 ⟨rfl,Q,ak⟩;obtain⟨_,_,d5,_⟩:=Q.cell;dsimp only at d5;have cu:=hide (bh.trans ak);go_wp2_with fail;refine aY (mD rfl _ _ _) rfl ?_;exact⟨rfl,{ f with err:=3,at_:=a }, .inl ⟨by simp,X.symm,R.symm⟩,⟨l.most,l.name,F,Q,cu.o⟩⟩
   |ok n' q4=>
    rw[hrl]at ai;obtain⟨dk,bw⟩:=ai;subst bw;rw[dk];have dy:=QI hrl (by omega);have ej:q4<=8*b.size:=(by have:=(FM hrl (by rw[cq];exact da)).2;omega);have bl:=BF x base C2 G.ld b { f with at_:=q4 } w4 aa S.c2 S.o2 S.l2 S.n2 S.f2 H;go_wp2_with fail;apply bl.mono;rintro r w5 ⟨dd,s5,rfl,K,Q,ak,_⟩;replace ak:dH x w4 f.v w5 f.v:=ak;replace K:XR (lC (aI G.ld) (bytesOf b) q4) b { f with at_:=q4 } dd s5:=K;have cd:=S.wrt ak;have ah:=bh.trans ak;cases hrs5:lC (aI G.ld) (bytesOf b) q4 with
    |no e1=>
     have bx:=oU hrs5;subst bx;rw[hrs5]at K;obtain⟨_,a,ha,av⟩:=K;subst av;have J:gCopy (bytesOf b) (iU G f) c q3= .no 9 f.out:=by
      unfold gCopy;rw[hrl];show(match iQ (aI G.ld) (bytesOf b) q4 with| .no e=>_| .miss=>_| .ok z q2=>_)=_;unfold iQ;rw[hrs5];rfl
     have A:=A;rw[J]at A;obtain⟨X,R⟩:=D.qQ _ _ A h3;obtain⟨_,_,d5,_⟩:=Q.cell;dsimp only at d5;go_wp2_with fail;refine aY (mD rfl _ _ _) rfl ?_;exact⟨rfl,{ f with err:=9,at_:=a }, .inl ⟨by simp,X.symm,R.symm⟩,⟨l.most,l.name,F,Q,ah⟩⟩
    |miss=>
     rw[hrs5]at K;obtain⟨_,a,ha,av⟩:=K;subst av;have J:gCopy (bytesOf b) (iU G f) c q3= .miss:=by
      unfold gCopy;rw[hrl];show(match iQ (aI G.ld) (bytesOf b) q4 with| .no e=>_| .miss=>_| .ok z q2=>_)=_;unfold iQ;rw[hrs5]
     have A:=A;rw[J]at A;obtain⟨X,R⟩:=D.wN A h3;obtain⟨_,_,d5,_⟩:=Q.cell;dsimp only at d5;go_wp2_with fail;refine aY (mD rfl _ _ _) rfl ?_;exact⟨rfl,{ f with err:=3,at_:=a }, .inl ⟨by simp,X.symm,R.symm⟩,⟨l.most,l.name,F,Q,ah⟩⟩
    |ok d q5=>
     rw[hrs5]at K;obtain⟨de,av⟩:=K;subst av;rw[de];have bk:=oV hrs5;have ek:=YS cd.n2 _ _ bk.2.2.2;have dz:q5<=8*b.size:=(by have:=bk.2.1;omega);obtain⟨_,_,d5,_⟩:=Q.cell;dsimp only at d5;rw[H]at d5;by_cases cl:30<=d
     ·have J:gCopy (bytesOf b) (iU G f) c q3= .no 9 f.out:=by
       unfold gCopy;rw[hrl];show(match iQ (aI G.ld) (bytesOf b) q4 with| .no e=>_| .miss=>_| .ok z q2=>_)=_;unfold iQ;rw[hrs5];dsimp only;rw[aA cl];rfl
      have A:=A;rw[J]at A;obtain⟨X,R⟩:=D.qQ _ _ A h3;go_wp2_with fail;apply(iK x base 9 b { f with at_:=q5 } w5 Q).mono;rintro r w6 ⟨rfl,L,ae⟩;replace ae:dH x w5 f.v w6 f.v:=ae;replace L:j6 w6 x base b { f with at_:=q5,err:=if f.err=0 then 9 else f.err }:=L;rw[aA H]at L;obtain⟨_,_,d6,_⟩:=L.cell;dsimp only at d6;have dj:=hide (ah.trans ae);go_wp2_with fail;refine aY (mD rfl _ _ _) rfl ?_;exact⟨rfl,{ f with at_:=q5,err:=9 }, .inl ⟨by simp,X.symm,R.symm⟩,⟨l.most,l.name,F,L,dj.o⟩⟩
     ·have ag:iQ (aI G.ld) (bytesOf b) q4=rD (bytesOf b) q5 d:=by
       unfold iQ rD XK;rw[hrs5];dsimp only;rw[aB cl]
      have bv:=WE x base d b { f with at_:=q5 } w5 Q H (by omega);have ef:¬(30:Int)<=(d:Int):=(by omega);go_wp2_with fail;apply bv.mono;rintro r w6 ⟨cb,s6,rfl,T,L,ae⟩;replace ae:dH x w5 f.v w6 f.v:=ae;replace T:XR (rD (bytesOf b) q5 d) b { f with at_:=q5 } cb s6:=T;have aw:=ah.trans ae;cases hdt:rD (bytesOf b) q5 d with
      |no e1=>
       exfalso;unfold rD XK at hdt;split at hdt
       ·cases hdt
       ·split at hdt<;>cases hdt
      |miss=>
       rw[hdt]at T;obtain⟨dx,a,ha,bo⟩:=T;subst bo;have J:gCopy (bytesOf b) (iU G f) c q3= .miss:=by
        unfold gCopy;rw[hrl];show(match iQ (aI G.ld) (bytesOf b) q4 with| .no e=>_| .miss=>_| .ok z q2=>_)=_;rw[ag.trans hdt]
       have A:=A;rw[J]at A;obtain⟨X,R⟩:=D.wN A h3;obtain⟨_,_,d6,_⟩:=L.cell;dsimp only at d6;have ab:=hide (show wE w w6 x base b s { f with err:=3,at_:=a }/\({ f with err:=3,at_:=a }:XS).err≠0/\({ f with err:=3,at_:=a }:XS).err=e/\({ f with err:=3,at_:=a }:XS).out=out from⟨⟨l.most,l.name,F,L,aw⟩,by simp,X.symm,R.symm⟩);go_wp2_with fail;go_loopw [10] (fun i wr=>i=V 0/\wr=w6) (fun _ _=>0);case atStart=>exact⟨rfl,rfl⟩
       case round=>
        obtain⟨rfl,br⟩:=hrel;have ar:=br.symm;subst ar;have dv:(0:Int)<(n':Int):=(by omega);go_wp2_with fail;go_roundg 0;case measure=>omega
        case rel=>exact⟨_,ab.o.1, .inr ⟨rfl,ab.o.2⟩⟩
      |ok z q6=>
       rw[hdt]at T;obtain⟨dm,bo⟩:=T;subst bo;rw[dm];have dc:=Dw (ag.trans hdt);have eq:q6<=8*b.size:=(by have:=(RJ (ag.trans hdt)).2;omega);have J:gCopy (bytesOf b) (iU G f) c q3=if f.out.length<z then .no 10 f.out else mM (iU G f) (copied f.out z n') q6:=by
        unfold gCopy;rw[hrl];show(match iQ (aI G.ld) (bytesOf b) q4 with| .no e=>_| .miss=>_| .ok z q2=>_)=_;rw[ag.trans hdt];rfl
       have A:=A;rw[J]at A;obtain⟨_,_,d6,v6,_⟩:=L.cell;dsimp only at d6 v6;rw[H]at d6;obtain⟨va,vc,bs⟩:=L.vQ;replace bs:f.v= .slice va f.out.length vc:=bs;rw[bs]at v6;have el:f.out.length<=1048576:=(by omega);by_cases bg:f.out.length<z
       ·rw[aA bg]at A;obtain⟨X,R⟩:=D.qQ _ _ A h3;have df:(f.out.length:Int)<(z:Int):=(by omega);go_wp2_with fail;apply(iK x base 10 b { f with at_:=q6 } _ L).mono;rintro r w7 ⟨rfl,am,bm⟩;replace bm:dH x w6 f.v w7 f.v:=bm;replace am:j6 w7 x base b { f with at_:=q6,err:=if f.err=0 then 10 else f.err }:=am;rw[aA H]at am;obtain⟨_,_,d7,_⟩:=am.cell;dsimp only at d7;have ab:=hide (show wE w w7 x base b s { f with at_:=q6,err:=10 }/\({ f with at_:=q6,err:=10 }:XS).err≠0/\({ f with at_:=q6,err:=10 }:XS).err=e/\({ f with at_:=q6,err:=10 }:XS).out=out from⟨⟨l.most,l.name,F,am,aw.trans bm⟩,by simp,X.symm,R.symm⟩);go_wp2_with fail;go_loopw [10] (fun i wr=>i=V 0/\wr=w7) (fun _ _=>0);case atStart=>exact⟨rfl,rfl⟩
        case round=>
         obtain⟨rfl,br⟩:=hrel;have ar:=br.symm;subst ar;have dv:(0:Int)<(n':Int):=(by omega);go_wp2_with fail;go_roundg 0;case measure=>omega
         case rel=>exact⟨_,ab.o.1, .inr ⟨rfl,ab.o.2⟩⟩
       ·rw[aB bg]at A;have ab:=hide (show wE w w6 x base b s { f with at_:=q6 }/\Bl e out f q6 z n' 0 { f with at_:=q6 } from⟨⟨l.most,l.name,F,L,aw⟩, .inl ⟨H,rfl,by simp⟩⟩);have df:¬(f.out.length:Int)<(z:Int):=(by omega);go_wp2_with fail;go_loopw [10] (fun i wr=>∃(j:Nat) (I:XS),j<=n'/\i=V j/\wE w wr x base b s I/\Bl e out f q6 z n' j I) (fun i _=>n'-(intOf i).toNat);case atStart=>exact⟨0,_,by omega,rfl,ab.o.1,ab.o.2⟩
        case round=>
         obtain⟨j,I,hj,rfl,C,ap⟩:=hrel;obtain⟨_,_,e7,v7,_⟩:=C.xat.cell;have ca:I.most=f.most:=C.most.trans l.most.symm;by_cases ad:I.err=0
         ·rw[ad]at e7;by_cases ac:j<n'
          ·have ct:I.out.length=f.out.length+j:=by
            rcases ap with⟨_,_,R⟩|⟨h9,_⟩
            ·rw[R,aN,dF,kX];omega
            ·exact absurd ad h9
           have cv:z<=I.out.length:=(by omega);have co:I.out.length<=1048576:=(by have:=C.room;omega);obtain⟨g7,ce,bz,bt⟩:∃g7 ce,I.v= .slice (some (U g7 0)) I.out.length ce/\wr.cell? ⟨g7,I.out.length-z,none⟩=some (.int .u8 (I.out[I.out.length-z]?.getD 0:Nat)):=by
            have bf:=C.xat.own;obtain⟨_,⟨hv,hz⟩|⟨g',cn,eb,hv,_⟩⟩:=C.xat.own
            ·omega
            ·refine⟨g',cn,hv,?_⟩;rw[hv]at bf;have h9:=bf.cellAt (I.out.length-z) (by omega);rw[h9];exact qM _ _ (by omega)
           rw[bz]at v7;obtain⟨t,bq⟩:=aP (I.out.length-z);obtain⟨cc,bp⟩:=aP (I.out[I.out.length-z]?.getD 0);rw[<-bp,<-bq]at bt;have ao:=fun v'=>an2 (G:=G) (q:=q) (B:=bytesOf b) (m:=m) v' ap ad dc.1 (by omega) ac M ca C.room bp D A;have ax:=fun W (hW:j6 W x base b I)=>QG x base cc b I W hW (by rw[C.most];exact au);obtain⟨bj,af⟩:=aP I.out.length;rw[<-af]at v7 bq cv co;have ee:IntKind.i64.wrap ((bj:Int)-(z:Int))=(t:Int):=(by rw[dK];omega);have en:(0:Int)<=(t:Int):=(by omega);have ed:(t:Int)<(bj:Int):=(by omega);clear ap bz bp bq ct af;go_wp2_with fail;go_region_with (first|(go_at_call 166;apply(ax _ (by first|exact C.xat|exact C.xat.drew)).mono;rintro e w8 ⟨rfl,v',cs,cr⟩));all_goals
            have aj:wE w w8 x base b s (qR cc I v')/\Bl e out f q6 z n' (j+1) (qR cc I v'):=⟨⟨(sQ cc I v').1.trans C.most,(sQ cc I v').2.trans C.name,(ao v').2,cs,C.wrt.drew.trans cr⟩,(ao v').1⟩
            go_wp2_with fail;exact⟨⟨j+1,_,by omega,by go_num,aj.1,aj.2⟩,by simp[intOf];omega⟩
          ·have cw:j=n':=(by omega);subst cw;rcases ap with⟨_,cz,bu⟩|⟨h9,_⟩
           case inr=>exact absurd ad h9
           rw[kW (by rw[kX];exact aS _)]at bu;have A:=A;unfold mM at A;have ec:=C.room;have af:I.out.length=f.out.length+j:=(by rw[bu,aN,kX]);have eo:(iU G f).out=f.out:=rfl;have em:(iU G f).most=G.most:=rfl;rw[eo,em,aA (by rw[kX];omega)]at A;obtain⟨m',az,aq⟩:=D.LY A h3;have ds:OV (bytesOf b) k e out q G m' I:=by
            refine⟨by omega,ad,ca.trans M,?_⟩;unfold iU;rw[bu,cz];exact aq
           go_wp2_with fail;go_roundg m;case measure=>omega
           case rel=>exact⟨I,C, .inl ⟨ad,m',by omega,ds⟩⟩
         ·have dl:((I.err:Int)==0)=false:=aX.2 (by omega);have ck:I.err≠0/\I.err=e/\I.out=out:=by
           rcases ap with⟨h9,_⟩|h9
           ·exact absurd h9 ad
           ·exact h9
          by_cases ac:j<n';all_goals
           go_wp2_with fail;go_roundg 0;case measure=>omega
           case rel=>exact⟨I,C, .inr ⟨rfl,ck⟩⟩
def isSlice (v:aK):Prop:=∃a n c,v= .slice a n c
def Mt (r:R (aD×aD))(x base:Nat)(b:bY)(s:XS)(w:aH)(c1 c2:aK)(s':XS)(w':aH):Prop:=
 j6 w' x base b s'/\dH x w s.v w' s.v/\
 match r with
 | .ok ab q=>s'={ s with at_:=q }/\∃C1 C2,c1= .slice (some (U C1 0)) ab.1.length ab.1.length/\c2= .slice (some (U C2 0)) ab.2.length ab.2.length/\Ready w' x C1 C2 s.v ab.1 ab.2
 | .no e=>e≠0/\isSlice c1/\isSlice c2/\∃a,a<=8*b.size/\s'={ s with err:=e,at_:=a }
 | .miss=>isSlice c1/\isSlice c2/\∃a,a<=8*b.size/\s'={ s with err:=3,at_:=a }
def oL:Prop:=
 ∀(x base:Nat) (b:bY) (s:XS) (w:aH),j6 w x base b s->s.err=0->
  Calls prog 144 #[E x] w fun r w'=>∃c1 c2 s',r= .returned (.tuple #[c1,c2])/\Mt (bW (bytesOf b) s.at_) x base b s w c1 c2 s' w'
def GD (x base:Nat)(c1 c2:aK)(d:isSlice c1)(i:isSlice c2)(b:bY)(s:XS)(w:aH)(h:j6 w x base b s)(j:s.err≠0):Calls prog 143 #[E x,c1,c2] w fun r w'=>r= .returned (.tuple #[])/\w'=w:=by
 obtain⟨a1,n1,k1,rfl⟩:=d;obtain⟨a2,n2,k2,rfl⟩:=i;obtain⟨_,_,l,_⟩:=h.cell;have f:((s.err:Int)==0)=false:=aX.2 (by omega);clear h;go_enter func143,ntmps143;go_wp2_with fail;go_loopg [6] 1 (fun g u wr=>wr=w);case atStart=>rfl
 case round=>
  have a:=hrel.symm;clear hrel;subst a;go_wp2_with fail;go_end0;exact⟨rfl,rfl⟩
def _root_.Go.dM.eZ.pos {s:GS}(h:eZ B k s e out q)(a:s.place≠3):1<=k:=by
 cases h
 ·exact absurd ‹_› a
 ·omega
 ·omega
 ·omega
structure MX (w wr:aH)(x base:Nat)(b:bY)(s s2:XS):Prop where
 most:s2.most=s.most
 name:s2.name=s.name
 room:s2.out.length<=s2.most
 xat:j6 wr x base b s2
 wrt:dH x w s.v wr s2.v
def zG (b:bY)(e:Nat)(out:aD)(q:Nat)(g:Nat)(last:Nat)(s2:XS):Prop:=
 (s2.err≠0/\s2.err=e/\s2.out=out)\/(s2.err=0/\∃G,eZ (bytesOf b) g G e out q/\G.out=s2.out/\G.most=s2.most/\((last=0/\G.place=0/\G.p=s2.at_)\/(last=1/\G.place=3/\G.p=(s2.at_+7)/8*8)))
def FQ {last:Bool}{s':XS}(h:rG (bytesOf b) k e out q last s'):∃g,(s'.err=0->g<k)/\zG b e out q g (if last then 1 else 0) s':=by
 rcases h with h|⟨j,r,u,hk,l,i,t,o⟩
 ·exact⟨0,fun s=>absurd s h.1, .inl h⟩
 ·refine⟨r,fun _=>hk, .inr ⟨j,u,l,i,t,?_⟩⟩;rcases o with⟨a,d,f⟩|⟨a,d,f⟩
  ·rw[a];exact .inl ⟨rfl,d,f⟩
  ·rw[a];exact .inr ⟨rfl,d,f⟩
def Om {s:XS}(h:j6 w x base b s)(hk:w.heap.size<=k):Off x s.v k:=⟨by have:=aO h.blk;omega,fun y=>by have:=(h.own.lt k y).2;omega⟩
def Dy {w3:aH}{a d:Nat}{s:XS}(h:j6 w x base b s)(f:w.heap.size<=a)(o:w.heap.size<=d)(r1:bA w3 a 234 (2*288) (iY (gP gK)))(l:bA w3 d 234 (2*32) (iY (gP fM))):Ready w3 x a d s.v gK fM:=by
 have g:gK.length=288:=by rw[kS,dP]
 have j:fM.length=32:=by unfold fM;rw[dQ]
 refine⟨by rw[qN,g];exact r1,by rw[qN,j];exact l,Om h f,Om h o,fun i=>by rw[kS];exact vX i,fun i=> ?_,by omega,by omega,?_,?_⟩
 ·unfold fM;rw[lY];split<;>simp
 ·unfold p9;rw[kS,CW,Bool.or_true]
 ·unfold p9 fM;rw[II,Bool.or_true]
def Pn {lb:Nat}(h:lb=bK B p)(d:lb<2):(if(bK B p==1)=true then 1 else 0)=lb:=by
 rw[<-h];have a:lb=0\/lb=1:=by omega
 rcases a with a|a<;>rw[a]<;>rfl
def MW (x base k e:Nat)(b:bY)(s:XS)(G:GS)(out:aD)(q:Nat)(w:aH)(hT:oL)(h:j6 w x base b s)(h0:s.err=0)(hm:s.most<=1048576)(bm:s.out.length<=s.most)(hG:G.out=s.out/\G.most=s.most/\G.place=0/\G.p=s.at_)(hr:eZ (bytesOf b) k G e out q):Calls prog 111 #[E x] w fun r w'=>r= .returned (.tuple #[])/\∃s',s'.err=e/\s'.out=out/\(e=0->s'.at_=q/\q%8=0)/\s'.name=s.name/\j6 w' x base b s'/\dH x w s.v w' s'.v:=by
 have bq:=hide (show MX w w x base b s s from⟨rfl,rfl,bm,h,dH.refl _ _ _⟩);have ba:=hide (show zG b e out q k 0 s from .inr ⟨h0,G,hr,hG.1,hG.2.1, .inl ⟨rfl,hG.2.2.1,hG.2.2.2⟩⟩);go_enter func111,ntmps111;go_wp2_with fail;go_loopg [2] k (fun g l wr=>∃(la:Nat) (f:XS),l=V la/\la<=1/\MX w wr x base b s f/\zG b e out q g la f);case atStart=>exact⟨0,s,rfl,by omega,bq.o,ba.o⟩
 case round=>
  obtain⟨la,f,rfl,bs,d,hrel⟩:=hrel;obtain⟨_,_,c2,_⟩:=d.xat.cell;rcases hrel with j|⟨D,Y,u,H,ag,am⟩
  case inl=>
   have bv:((f.err:Int)==0)=false:=aX.2 (by have:=j.1;omega);have br:la=0\/la=1:=(by omega);rcases br with rfl|rfl;all_goals
    go_wp2_with fail;go_end0;exact⟨rfl,f,j.2.1,j.2.2,fun L=>absurd (j.2.1.trans L) j.1,d.name,d.xat,d.wrt⟩
  rw[D]at c2;rcases am with⟨rfl,ae,A⟩|⟨rfl,ae,A⟩
  case inr=>
   have hd:e=0/\out=f.out/\q=(f.at_+7)/8*8:=by
    rcases u.inv with⟨_,Z,h2,h3⟩|⟨Z,_⟩|⟨Z,_⟩|⟨_,_,_,Z,_⟩
    ·exact⟨Z,by rw[h2,H],by rw[h3,A]⟩
    ·exact absurd ae Z
    ·exact absurd ae Z
    ·exact absurd ae Z
   go_wp2_with fail;apply(Fz x base b f wr d.xat).mono;rintro r w1 ⟨rfl,aq,an⟩;have au:=hide (d.wrt.trans an);go_wp2_with fail;go_end0;exact⟨rfl,{ f with at_:=(f.at_+7)/8*8 },D.trans hd.1.symm,hd.2.1.symm,fun _=>⟨hd.2.2.symm,by have:=hd.2.2;omega⟩,d.name,aq,au.o⟩
  have Z:Y.place≠1:=by omega
  have h2:Y.place≠2:=by omega
  have h3:Y.place≠3:=by omega
  have bt:=u.pos h3;have ax:=YL x base b f wr d.xat;go_wp2_with fail;apply ax.mono;rintro r w1 ⟨rfl,aq,an⟩;have aj:=gD x base 2 b (p8 b f).2 w1 aq (by omega);rw[(Xe b f).1]at aj;have au:=hide (d.wrt.trans an);go_wp2_with fail;apply aj.mono;rintro r w2 ⟨rfl,y,aw⟩;have F:=au.o.trans aw;have aa:=bytesOf_length b;have al:Same b f Y:=⟨D,H.symm,ag.symm,by rw[d.most];exact hm,d.xat.there⟩
  have Q:bM (bytesOf b) Y=kL (bytesOf b) Y:=by unfold bM;rw[aB Z,aB h2]
  by_cases P:f.at_+3<=8*b.size;case neg=>
   have e3:(cB b (p8 b f).2 2).2={ f with at_:=8*b.size,err:=3 }:=EJ b f D al.bits 1 2 (by omega);rw[e3]at y;unfold kL at Q;rw[aB (by rw[A,aa];exact P)]at Q;obtain⟨he,ho⟩:=u.wN Q h3;obtain⟨_,_,d2,_⟩:=y.cell;dsimp only at d2;have bu:=(pW b (p8 b f).2 2).1;generalize(cB b (p8 b f).2 2).1=y2 at*;generalize(p8 b f).1=y1 at*;go_wp2_with fail;refine aY (mD rfl _ _ _) rfl ?_;exact⟨rfl,{ f with at_:=8*b.size,err:=3 },he.symm,by rw[ho];exact H.symm,fun L=>by rw[he]at L;omega,d.name,y,F⟩
  have e1:p8 b f=(bK (bytesOf b) f.at_,{ f with at_:=f.at_+1 }):=by unfold p8;rw[aB (by omega),aA (by omega)]
  rw[e1]at y|-
  dsimp only at y|-
  rw[jH b { f with at_:=f.at_+1 } D 2 (by dsimp only;omega)]at y|-
  replace y:j6 w2 x base b { f with at_:=f.at_+3 }:=y;dsimp only;have ar:=kQ (bytesOf b) f.at_;have bo:=bO (bytesOf b) (f.at_+1) 2;obtain⟨_,_,d2,_⟩:=y.cell;dsimp only at d2;rw[D]at d2;obtain⟨kd,ap⟩:=aP (aG (bytesOf b) (f.at_+1) 2);obtain⟨lb,ak⟩:=aP (bK (bytesOf b) f.at_);rw[<-ap]at bo|-
  rw[<-ak]at ar|-
  have af:=hide ap;have ao:=hide ak;clear aw ap ak e1;have bh:kd=0\/kd=1\/kd=2\/kd=3:=by omega
  rcases bh with rfl|rfl|rfl|rfl;focus
   have ah:=Gw x base gk e b { f with at_:=f.at_+3 } Y out q w2 y ⟨D,H.symm,ag.symm,by dsimp only;rw[d.most];exact hm,P⟩ (by dsimp only;rw[A]) Z h2 h3 (by rw[A];exact af.o.symm) u d.room;have ay:=hide ah;clear ah;go_wp2_with fail;apply ay.o.mono;rintro r w3 ⟨rfl,M,j,bf,bn,R,z,C⟩;obtain⟨g',ac,t⟩:=FQ j;have bb:(if(bK (bytesOf b) Y.p==1)=true then 1 else 0)=lb:=by
    rw[A,<-ao.o];have L:lb=0\/lb=1:=(by omega);rcases L with L|L<;>rw[L]<;>rfl
   rw[bb]at t;have K:=hide (show MX w w3 x base b s M/\zG b e out q g' lb M from⟨⟨bn.trans d.most,bf.trans d.name,R,z,F.trans C⟩,t⟩)
  rotate_left;focus
   have J:=Q;unfold kL at J;rw[aA (by rw[A,aa];exact P),A,<-af.o,aB (by omega),aA rfl]at J;obtain⟨m,bk,R⟩:=u.LY J h3;go_wp2_with fail;apply(Mc w2).mono;rintro r w3 ⟨C1,C2,rfl,bp,bg,bl,bj,bc⟩;have I:=JQ x base gk e C1 C2 b { f with at_:=f.at_+3 } { Y with last:=bK (bytesOf b) f.at_==1,place:=2,ls:=gK,ld:=fM,p:=f.at_+3 } out q w3 (y.step0 bc) ⟨D,H.symm,ag.symm,by dsimp only;rw[d.most];exact hm,P⟩ (Dy y bp bg bl bj) m (by omega) (by unfold iU;dsimp only;rw[<-H];exact R) d.room;dsimp only at I;rw[show gK.length=288 by rw[kS,dP],show fM.length=32 by unfold fM;rw[dQ]]at I;have av:=hide (F.step0 bc);go_wp2_with fail;apply I.mono;rintro r w4 ⟨rfl,M,j,i⟩;obtain⟨g',ac,t⟩:=FQ j;rw[Pn ao.o ar]at t;have K:=hide (show MX w w4 x base b s M/\zG b e out q g' lb M from⟨⟨i.most.trans d.most,i.name.trans d.name,i.room,i.xat,av.o.trans i.wrt⟩,t⟩)
  rotate_left
  ·have J:=Q;unfold kL at J;rw[aA (by rw[A,aa];exact P),A,<-af.o,aB (by omega),aB (by omega),aA rfl]at J;have T:=hT x base b { f with at_:=f.at_+3 } w2 y D;dsimp only at T;have be:=hide T;go_wp2_with fail;apply be.o.mono;rintro r w3 ⟨c1,c2,M,rfl,z,C,N⟩;have J:=J;generalize bW (bytesOf b) (f.at_+3)=rc at N J;rcases rc with⟨ab,p3⟩|e3|_
   ·obtain⟨rfl,C1,C2,rfl,rfl,ai⟩:=N;dsimp only at J C ai;obtain⟨m,bk,R⟩:=u.LY J h3;have I:=JQ x base gk e C1 C2 b { f with at_:=p3 } { Y with last:=bK (bytesOf b) f.at_==1,place:=2,ls:=ab.1,ld:=ab.2,p:=p3 } out q w3 z ⟨D,H.symm,ag.symm,by dsimp only;rw[d.most];exact hm,z.there⟩ ai m (by omega) (by unfold iU;dsimp only;rw[<-H];exact R) d.room;dsimp only at I;have ad:=hide I;have av:=hide (F.trans C);go_wp2_with fail;apply ad.o.mono;rintro r w4 ⟨rfl,M,j,i⟩;obtain⟨g',ac,t⟩:=FQ j;rw[Pn ao.o ar]at t;have K:=hide (show MX w w4 x base b s M/\zG b e out q g' lb M from⟨⟨i.most.trans d.most,i.name.trans d.name,i.room,i.xat,av.o.trans i.wrt⟩,t⟩);go_wp2_with fail;by_cases S:M.err=0
    ·go_roundg g';case measure=>exact ac S
     case rel=>exact⟨lb,M,rfl,by omega,K.o.1,K.o.2⟩
    ·go_roundg 0;case measure=>omega
     case rel=>exact⟨lb,M,rfl,by omega,K.o.1,by
      rcases K.o.2 with L|⟨L,_⟩
      ·exact .inl L
      ·exact absurd L S⟩
   focus
    obtain⟨az,X,W,a,ha,rfl⟩:=N;dsimp only at J C;obtain⟨he,ho⟩:=u.qQ _ _ J h3;have I:=GD x base c1 c2 X W b _ w3 z az;obtain⟨a1,n1,k1,rfl⟩:=X;obtain⟨a2,n2,k2,rfl⟩:=W;have ad:=hide I;have K:=hide (show MX w w3 x base b s { f with at_:=a,err:=e3 }/\zG b e out q 0 lb { f with at_:=a,err:=e3 } from⟨⟨d.most,d.name,d.room,z,F.trans C⟩, .inl ⟨az,he.symm,by rw[ho];exact H.symm⟩⟩)
   rotate_left;focus
    obtain⟨X,W,a,ha,rfl⟩:=N;dsimp only at J C;obtain⟨he,ho⟩:=u.wN J h3;have I:=GD x base c1 c2 X W b _ w3 z (by dsimp only;omega);obtain⟨a1,n1,k1,rfl⟩:=X;obtain⟨a2,n2,k2,rfl⟩:=W;have ad:=hide I;have K:=hide (show MX w w3 x base b s { f with at_:=a,err:=3 }/\zG b e out q 0 lb { f with at_:=a,err:=3 } from⟨⟨d.most,d.name,d.room,z,F.trans C⟩, .inl ⟨by dsimp only;omega,he.symm,by rw[ho];exact H.symm⟩⟩)
   all_goals
    go_wp2_with fail;apply ad.o.mono;rintro r w4 ⟨rfl,rfl⟩;go_wp2_with fail;go_roundg 0;case measure=>omega
    case rel=>exact⟨lb,_,rfl,by omega,K.o.1,K.o.2⟩
  ·have J:=Q;unfold kL at J;rw[aA (by rw[A,aa];exact P),A,<-af.o,aB (by omega),aB (by omega),aB (by omega)]at J;obtain⟨he,ho⟩:=u.qQ _ _ J h3;go_wp2_with fail;apply(iK x base 5 b { f with at_:=f.at_+3 } w2 y).mono;rintro r w3 ⟨rfl,z,C⟩;replace C:dH x w2 f.v w3 f.v:=C;replace z:j6 w3 x base b { f with at_:=f.at_+3,err:=if f.err=0 then 5 else f.err }:=z;rw[aA D]at z;have K:=hide (show MX w w3 x base b s { f with at_:=f.at_+3,err:=5 }/\zG b e out q 0 lb { f with at_:=f.at_+3,err:=5 } from⟨⟨d.most,d.name,d.room,z,F.trans C⟩, .inl ⟨by simp,he.symm,by rw[ho];exact H.symm⟩⟩);go_wp2_with fail;go_roundg 0;case measure=>omega
   case rel=>exact⟨lb,_,rfl,by omega,K.o.1,K.o.2⟩
  all_goals
   go_wp2_with fail;by_cases S:M.err=0
   ·go_roundg g';case measure=>exact ac S
    case rel=>exact⟨lb,M,rfl,by omega,K.o.1,K.o.2⟩
   ·go_roundg 0;case measure=>omega
    case rel=>exact⟨lb,M,rfl,by omega,K.o.1,by
     rcases K.o.2 with L|⟨L,_⟩
     ·exact .inl L
     ·exact absurd L S⟩
def Bad {α:Type}(r:R α)(e:Nat):Prop:=(r= .no e/\e≠0)\/(r= .miss/\e=3)
def Bad.ne {α:Type}{r:R α}(h:Bad r e):e≠0:=by rcases h with h|h<;>omega
def Va {r:R (aD×aD)}(h:Bad r e){s:XS}{w':aH}{c1 c2:aK}{a:Nat}(d:isSlice c1)(i:isSlice c2)(j:a<=8*b.size)(g:j6 w' x base b { s with err:=e,at_:=a })(f:dH x w s.v w' s.v):Mt r x base b s w c1 c2 { s with err:=e,at_:=a } w':=by
 rcases h with⟨rfl,l⟩|⟨rfl,rfl⟩
 ·exact⟨g,f,l,d,i,a,j,rfl⟩
 ·exact⟨g,f,d,i,a,j,rfl⟩
def av9 (b:bY)(s:XS)(a:s.err=0)(i:s.at_<=8*b.size):(s.at_+14<=8*b.size/\cB b (cB b (cB b s 5).2 5).2 4=(aG (bytesOf b) (s.at_+10) 4,{ s with at_:=s.at_+14 })/\(cB b s 5).1=aG (bytesOf b) s.at_ 5/\(cB b (cB b s 5).2 5).1=aG (bytesOf b) (s.at_+5) 5)\/(¬s.at_+14<=8*b.size/\(cB b (cB b (cB b s 5).2 5).2 4).2={ s with at_:=8*b.size,err:=3 }):=by
 by_cases g:s.at_+5<=8*b.size
 ·rw[jH b s a 5 g];dsimp only;by_cases j:s.at_+10<=8*b.size
  ·rw[jH b { s with at_:=s.at_+5 } a 5 (by dsimp only;omega)];dsimp only;by_cases d:s.at_+14<=8*b.size
   ·refine .inl ⟨d,?_,rfl,rfl⟩;exact jH b { s with at_:=s.at_+10 } a 4 (by dsimp only;omega)
   ·exact .inr ⟨d,j3 b { s with at_:=s.at_+10 } a (by dsimp only;omega) 4 (by dsimp only;omega)⟩
  ·have e:=j3 b { s with at_:=s.at_+5 } a (by dsimp only;omega) 5 (by dsimp only;omega);rw[e,oD _ _ (by dsimp only;omega)];exact .inr ⟨by omega,rfl⟩
 ·have e:=j3 b s a i 5 (by omega);have f:=fun k=>oD b { s with at_:=8*b.size,err:=3 } (by show(3:Nat)≠0;omega) k;rw[e,f,f];exact .inr ⟨by omega,rfl⟩
structure Well (b:bY)(s:XS)(m f c:Nat):Prop where
 there:s.at_+14<=8*b.size
 m_:m=aG (bytesOf b) s.at_ 5+257
 f_:f=aG (bytesOf b) (s.at_+5) 5+1
 c_:c=aG (bytesOf b) (s.at_+10) 4+4
 ml:m<=286
 fl:f<=30
def Ill (b:bY)(s s2:XS):Prop:=∃e a,Bad (bW (bytesOf b) s.at_) e/\a<=8*b.size/\s2={ s with err:=e,at_:=a }
def Pj (b:bY)(s:XS)(h:¬s.at_+14<=8*b.size):bW (bytesOf b) s.at_= .miss:=by unfold bW;rw[bytesOf_length,aB h]
def ah8 (b:bY)(s:XS)(h:s.at_+14<=8*b.size)(a:286<aG (bytesOf b) s.at_ 5+257\/30<aG (bytesOf b) (s.at_+5) 5+1):bW (bytesOf b) s.at_= .no 7:=by unfold bW;rw[bytesOf_length,aA h];dsimp only;rw[aA a]
def Well.rC {s:XS}{f:Nat}(h:Well b s m f c):bW (bytesOf b) s.at_=if s.at_+14+3*c<=8*b.size then(if fF (bD (bytesOf b) (s.at_+14) c)=true then(match NM (aI (bD (bytesOf b) (s.at_+14) c)) (bytesOf b) (m+f) (s.at_+14+3*c)with| .ok row q=>pI row m q| .no e=> .no e| .miss=> .miss)else .no 7)else .miss:=by unfold bW;rw[bytesOf_length,aA h.there];dsimp only;rw[<-h.m_,<-h.f_,<-h.c_,aB (by have:=h.ml;have:=h.fl;omega)];rfl
def az6 (b:bY)(s:XS)(l:s.err=0)(t:s.at_<=8*b.size)(v1 a:Nat)(p3:Nat×XS)(i:v1=(cB b s 5).1)(j:a=(cB b (cB b s 5).2 5).1)(e3:p3=cB b (cB b (cB b s 5).2 5).2 4):(p3.2={ s with at_:=s.at_+14 }/\Well b s (v1+257) (a+1) (p3.1+4)/\¬(286<v1+257\/30<a+1))\/(¬(286<v1+257\/30<a+1)/\Ill b s p3.2)\/((286<v1+257\/30<a+1)/\Ill b s { p3.2 with err:=if p3.2.err=0 then 7 else p3.2.err }):=by
 rcases av9 b s l t with⟨d,g,o,r⟩|⟨d,g⟩
 ·rw[g]at e3;rw[o]at i;rw[r]at j;subst e3;dsimp only;by_cases f:286<v1+257\/30<a+1
  ·refine .inr (.inr ⟨f,7,s.at_+14, .inl ⟨ah8 b s d (by rw[<-i,<-j];exact f),by omega⟩,d,?_⟩);rw[aA l]
  ·exact .inl ⟨rfl,⟨d,by rw[i],by rw[j],rfl,by omega,by omega⟩,f⟩
 ·rw[<-e3]at g;by_cases f:286<v1+257\/30<a+1
  ·refine .inr (.inr ⟨f,3,8*b.size, .inr ⟨Pj b s d,rfl⟩,aS _,?_⟩);rw[g];rfl
  ·exact .inr (.inl ⟨f,3,8*b.size, .inr ⟨Pj b s d,rfl⟩,aS _,g⟩)
def FW (b:bY)(s:XS)(m f c k:Nat)(F:Nat->Nat)(s2:XS):Prop:=
 (s2={ s with at_:=s.at_+14+3*k }/\Well b s m f c/\s.at_+14+3*k<=8*b.size/\F=wI (bytesOf b) (s.at_+14) k)\/Ill b s s2
def He {s:XS}{f:Nat}{F:Nat->Nat}{d:XS}(j:s.err=0)(hk:k<c)(h:FW b s m f c k F d):FW b s m f c (k+1) (fun i=>if i=bP[k]?.getD 0 then(cB b d 3).1 else F i) (cB b d 3).2:=by
 rcases h with⟨rfl,l,g,rfl⟩|⟨e,a,o,t,rfl⟩
 ·by_cases r:s.at_+14+3*k+3<=8*b.size
  ·rw[jH b { s with at_:=s.at_+14+3*k } j 3 r];exact .inl ⟨rfl,l,by omega,by funext i;rw[wI]⟩
  ·rw[j3 b { s with at_:=s.at_+14+3*k } j g 3 (by dsimp only;omega)];refine .inr ⟨3,8*b.size, .inr ⟨?_,rfl⟩,aS _,rfl⟩;rw[l.rC,aB (by omega)]
 ·rw[oD _ _ (by exact o.ne)];exact .inr ⟨e,a,o,t,rfl⟩
def Lc {D:d9}{row:aD}(h:oK D B n p row= .no e):e≠0:=by
 unfold oK at h;split at h
 ·rename_i d hs;have:=oU hs;cases h;omega
 ·cases h
 ·split at h
  ·cases h;omega
  ·split at h
   ·rename_i d a;unfold fO at a;split at a
    ·cases a
    ·split at a
     ·split at a<;>cases a
     ·split at a
      ·split at a<;>cases a
      ·split at a<;>cases a
   ·cases h
   ·split at h
    ·cases h;omega
    ·cases h
def Ja {D:d9}{row a:aD}(h:oK D B n p row= .ok a q):row.length<a.length/\a.length<=n:=by
 unfold oK at h;split at h
 ·cases h
 ·cases h
 ·rename_i s g hs;split at h
  ·cases h
  ·split at h
   ·cases h
   ·cases h
   ·rename_i lt q' d;have f:=(TW d (oV hs).2.1).2.2;split at h
    ·cases h
    ·cases h;rw[aN,dQ];omega
def Mx (D:d9)(B:aD)(n k p:Nat)(row:aD)(h:n<=row.length):iC D B n k p row= .ok row p:=by
 cases k with
 |zero=>rfl
 |succ k=>rw[iC,aA h]
def Ka (D:d9)(b:bY)(s:XS)(n p0 g:Nat)(row:aD)(s2:XS):Prop:=
 (∃p2,p2<=8*b.size/\s2={ s with at_:=p2 }/\iC D (bytesOf b) n g p2 row=NM D (bytesOf b) n p0/\n<=row.length+g/\row.length<=n)\/∃e a,Bad (NM D (bytesOf b) n p0) e/\a<=8*b.size/\s2={ s with err:=e,at_:=a }
def Step.past {S:Nat->Prop}{w2:aH}{lb:Nat}(h:Step S w w1)(d:w.heap.size<=lb)(k:Step (fun k=>S k\/lb<=k) w1 w2):Step S w w2:=h.trans' k fun i hi a=>a.elim (fun y=>y) (fun y=>by omega)
structure IQ (w w':aH)(b:bY)(e:Nat)(out:aD)(q:Nat)(s':XS):Prop where
 err:s'.err=e
 out:s'.out=out
 used:e=0->s'.at_=q/\q%8=0
 name:s'.name=⟨#[]⟩
 xat:j6 w' (w.heap.size+1) (w.heap.size+1+1) b s'
 res:w'.heap[w.heap.size]? =some (.cells #[V 0, .slice none 0 0,V 0, .string ⟨#[]⟩] 45 (0,0))
 step:O w w'
def Wz (n e:Nat)(most M:Int)(b:bY)(out:aD)(q:Nat)(w:aH)(D:oL)(F:b.size<=140737488351232)(C:eZ (bytesOf b) n (rQ (asked most)) e out q)(G:M=(asked most:Nat)):Calls prog 111 #[.pointer (some ⟨w.heap.size+1,0,none⟩)] ((w.alloc (.cells #[V 0, .slice none 0 0,V 0, .string ⟨#[]⟩] 45)).alloc (.cells #[.string b,V 0,V 0, .slice none 0 0,V M, .string ⟨#[]⟩] 167)) fun r w'=>r= .returned (.tuple #[])/\∃s',IQ w w' b e out q s':=by
 obtain⟨w1,d⟩:=aP (w.alloc (.cells #[V 0, .slice none 0 0,V 0, .string ⟨#[]⟩] 45));have l:w1.heap.size=w.heap.size+1:=by rw[d];simp
 have o:w1.heap[w.heap.size]? =some (.cells #[V 0, .slice none 0 0,V 0, .string ⟨#[]⟩] 45 (0,0)):=by rw[d];exact aR _ _
 have t:O w w1:=by rw[d];exact(aU _ _).alloc _
 rw[<-d];obtain⟨w2,a⟩:=aP (w1.alloc (.cells #[.string b,V 0,V 0, .slice none 0 0,V M, .string ⟨#[]⟩] 167));have J:w2.heap.size=w.heap.size+1+1:=by rw[a];simp[l]
 have j:O w1 w2:=by rw[a];exact(aU _ _).alloc _
 have s:w2.heap[w.heap.size+1]? =some (.cells #[.string b,V 0,V 0, .slice none 0 0,V M, .string ⟨#[]⟩] 167 (0,0)):=by rw[a,<-l];exact aR _ _
 rw[<-a]
 have v:j6 w2 (w.heap.size+1) (w.heap.size+1+1) b ⟨0,0, .slice none 0 0,[],asked most,⟨#[]⟩⟩:=
  ⟨by rw[s,G];rfl,jJ _ _ _ _,by omega,by omega,iZ _,F⟩
 apply(MW _ _ n e b _ (rQ (asked most)) out q w2 D v rfl (vW most) (iZ _) ⟨rfl,rfl,rfl,rfl⟩ C).mono;rintro r w3 ⟨rfl,s',y,H,z,A,I,u⟩;have g:∀k,k<w.heap.size+1->¬(k=w.heap.size+1\/(Value.slice none 0 0).ownBlock=some k):=fun k hk f=>by
  rcases f with f|f
  ·omega
  ·simp[Value.ownBlock]at f
 exact⟨rfl,s',y,H,z,A,I,u.step.at_ (j.at_ o (fun x=>x)) (g _ (by omega)),(t.trans j).trans' u.step (fun i hi f=>(g i (by omega) f).elim)⟩
def IQ.row {s':XS}(h:IQ w w1 b e out q s'){i:Option Addr}{f len:Nat}(t:s'.v= .slice i len f)(j l s r:aK)(o:Obj):((((((w1.setCell (U w.heap.size 0) j).setCell (U w.heap.size 1) l).setCell (U w.heap.size 2) s).setCell (U w.heap.size 3) r).alloc o).drew).ownsRow w.heap.size 5 1 (.slice i len f) out.length (jR out):=by
 have g:=h.xat.own;rw[t,h.out]at g;have d:(Value.slice i len f).ownBlock≠some w.heap.size:=fun hk=>by
  have:=(g.lt _ hk).1;omega
 have u:=bH g (show w.heap.size<=w.heap.size+1+1 by omega);exact(((mI (mI (mI (mI u (a:=(U w.heap.size 0)) d j) (a:=(U w.heap.size 1)) d l) (a:=(U w.heap.size 2)) d s) (a:=(U w.heap.size 3)) d r))).alloc o
def IQ.far {s':XS}(h:IQ w w1 b e out q s')(a d g f:aK)(o:Obj):O w (((((w1.setCell (U w.heap.size 0) a).setCell (U w.heap.size 1) d).setCell (U w.heap.size 2) g).setCell (U w.heap.size 3) f).alloc o).drew:=(((((h.step.aZ (aS _) _).aZ (aS _) _).aZ (aS _) _).aZ (aS _) _).alloc _).drew
def YO (n e:Nat)(most:Int)(b:bY)(out:aD)(q:Nat)(w:aH)(K:oL)(S:b.size<=140737488351232)(I:eZ (bytesOf b) n (rQ (asked most)) e out q):Calls prog 67 #[V 0, .string b,V most] w fun r w'=>∃L,r= .returned (.agg #[V e,L,V (CO 0 e q:Nat), .string ⟨#[]⟩])/\w'.ownsRow w.heap.size 5 1 L out.length (jR out)/\O w w':=by
 have HB:=hide (fun M X=>Wz n e most M b out q w K S I X);clear I K;have g:(most<0/\(0:Int)=(asked most:Nat))\/(¬most<0/\1048576<most/\(1048576:Int)=(asked most:Nat))\/(¬most<0/\¬1048576<most/\most=(asked most:Nat)):=by
  by_cases f:most<0
  ·exact .inl ⟨f,by unfold asked;rw[aA f];rfl⟩
  ·by_cases i:1048576<most
   ·exact .inr (.inl ⟨f,i,by unfold asked;rw[aB f,aA i];rfl⟩)
   ·exact .inr (.inr ⟨f,i,by unfold asked;rw[aB f,aB i];omega⟩)
 go_enter func67,ntmps67;rcases g with⟨f,y⟩|⟨f,i,y⟩|⟨f,i,y⟩
 all_goals
  have H:=hide (HB.o _ y);clear HB y;go_wp2_with fail;apply H.o.mono;rintro r w1 ⟨rfl,s',a⟩;clear H;obtain⟨c0,c1,c2,c3,c4,R⟩:=a.xat.cell;obtain⟨z,t,s⟩:=a.xat.vQ;rw[s]at c3;rw[a.name]at R;rw[a.err]at c2;have l:=aO a.res;have Q:=aO a.xat.blk;have D:w1.cell? (U w.heap.size 0)=some (V 0):=aC a.res 0 _ rfl;have G:w1.cell? (U w.heap.size 1)=some (.slice none 0 0):=aC a.res 1 _ rfl;have N:w1.cell? (U w.heap.size 2)=some (V 0):=aC a.res 2 _ rfl;have F:w1.cell? (U w.heap.size 3)=some (.string ⟨#[]⟩):=aC a.res 3 _ rfl;have Z:=aJ a.res 0;have g1:=aJ a.res 1;have g2:=aJ a.res 2;have Y:=aJ a.res 3;obtain⟨len,d⟩:=aP s'.out.length;rw[<-d]at c3 s;have J:=hide d;have P:=hide s;have j:=hide a;have T:=a.xat.there;clear a d s;by_cases u:e=0
  ·have A:((e:Int)==0)=true:=dI.2 (by omega);go_wp2_with fail;go_region;go_wp2_with fail;refine aY (v:= .agg #[V 0, .slice z len t,V ((s'.at_:Int)/8), .string ⟨#[]⟩]) (by simp[results,results67,go_sem,D,G,N,F,l]) rfl ⟨.slice z len t,?_,j.o.row P.o _ _ _ _ _,j.o.far _ _ _ _ _⟩;have W:=j.o.used u;have C:CO 0 e q=q/8:=(by unfold CO;rw[aA u];omega);rw[C,u,show((s'.at_:Int)/8)=((q/8:Nat):Int) by rw[W.1];omega];rfl
  ·have A:((e:Int)==0)=false:=aX.2 (by omega);go_wp2_with fail;go_region;go_wp2_with fail;refine aY (v:= .agg #[V e, .slice z len t,V 0, .string ⟨#[]⟩]) (by simp[results,results67,go_sem,D,G,N,F,l]) rfl ⟨.slice z len t,?_,j.o.row P.o _ _ _ _ _,j.o.far _ _ _ _ _⟩;have C:CO 0 e q=0:=(by unfold CO;rw[aB u]);rw[C];rfl
end Go.Proofs.YtbpahojchgpdnaaGreatDoor
