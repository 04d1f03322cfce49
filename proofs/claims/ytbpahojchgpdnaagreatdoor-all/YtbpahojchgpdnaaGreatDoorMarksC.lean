import Derived.Test.YtbpahojchgpdnaaGreatDoorMarksB
import Derived.Test.YtbpahojchgpdnaaGreatDoorGzipB
set_option linter.all false
namespace Go.Proofs.YtbpahojchgpdnaaGreatDoor
open Go.RowKit Go.dM Go.Maps
variable {B F L L1 L2 P X out ys:aD} {a c e m most p q s x:Nat} {last:Bool}
def rT (B:aD)(s s':GS):Prop:=∃n,∀m e out q,eZ B m s' e out q->eZ B (m+n) s e out q
def rT.refl (B:aD)(s:GS):rT B s s:=⟨0,fun _ _ _ _ h=>h⟩
def rT.trans {a b c:GS}(h:rT B a b)(k:rT B b c):rT B a c:=by obtain⟨n,hn⟩:=h;obtain⟨m,d⟩:=k;exact⟨m+n,fun i e out q f=>by rw[<-iV];exact hn _ _ _ _ (d _ _ _ _ f)⟩
def rT.one {s b:GS}(d:s.place≠3)(h:bM B s= .go b):rT B s b:=⟨1,fun m e out q f=> .go m s b e out q d h f⟩
def rT.run {s b:GS}(h:rT B s b)(d:eZ B m b e out q):∃n,eZ B n s e out q:=by obtain⟨n,hn⟩:=h;exact⟨_,hn _ _ _ _ d⟩
def CS {f:List Bool}(j:bQ f B)(l:f.length<=8*B.length)(k:∀i:Nat,L[i]?.getD 0<=15)(n:fF L=true)(b:iB L s)(h:bC f p (dN L s)):lC (aI L) B p= .ok s (p+(dN L s).length):=by
 have d:=uY h (fun e=>by have:=lZ List.length e;rw[fP]at this;have:=b.pos;simp at *;omega) l;rw[fP]at d|-
 have o:=b.lo;have g:=b.hi;rw[gW]at g;exact IW (ag9 j k b.lt rfl b.pos (by omega:Go.dM.keyOf L s=2^(L[s]?.getD 0)+(Go.dM.keyOf L s-2^(L[s]?.getD 0))) (by omega) n h d)
def Jp {b:List Bool}(h:bC b p (numBits x m))(d:b.length<=8*B.length)(hp:p<=8*B.length):p+m<=8*B.length:=by
 by_cases f:m=0
 ·omega
 ·have:=uY h (fun e=>by have:=lZ List.length e;rw[aM]at this;simp at this;omega) d;rw[aM]at this;exact this
def af0 {g:List Bool}{n:Nat}(l:bQ g B)(r:g.length<=8*B.length)(o:LenM n s x m)(h:bC g q (numBits x m))(t:q<=8*B.length):eF B q s= .ok n (q+m):=by
 have k:=Jp h r t;have hn:=mR l q x m h;unfold eF;rcases o with⟨i,b,d,f⟩|⟨i,b,d,f,j⟩|⟨i,b,d,f,j,u⟩
 ·rw[aB (by omega),aA b,i,f,lN]
 ·subst j;rw[aB (by omega),aB (by omega),aA b,d];rfl
 ·rw[aB (by omega),aB (by omega),aB (by omega),<-d,aA k,hn,kC j,f]
def Tm {b:List Bool}{d:Nat}(n:bQ b B)(o:b.length<=8*B.length)(t:∀i:Nat,L[i]?.getD 0<=15)(w:fF L=true)(v:iB L s)(u:tL d s x m)(h:bC b q (dN L s++numBits x m)):iQ (aI L) B q= .ok d (q+(dN L s).length+m):=by
 have hs:=CS n o t w v h.left;have y:=(oV hs).2.1;have g:=Jp h.right o y;have hn:=mR n _ x m h.right;unfold iQ;rw[hs];dsimp only;rcases u with⟨j,k,l,f⟩|⟨j,k,l,f,r,z⟩
 ·subst f;rw[aB (by omega),aA j,k];rfl
 ·rw[aB (by omega),aB (by omega),<-l,aA g,hn,kC r,f]
def Ej (ys:aD)(q d l:Nat)(j:1<=d)(k:d<=q)(o:q+l<=ys.length)(h:∀i,i<l->ys[q-d+i]?.getD 0=ys[q+i]?.getD 0):copied (ys.take q) d l=(ys.drop q).take l:=by
 have f:(ys.take q).length=q:=by rw[dF];omega
 have key:∀n i,i<n->i<l->(ys.take q)[q-d+i%d]?.getD 0=ys[q+i]?.getD 0:=by
  intro n;induction n with
  |zero=>intro i hi;omega
  |succ n ih=>
   intro i hi b;by_cases g:i<d
   ·rw[kC g,jQ (by omega)];exact h i b
   ·rw[Nat.mod_eq_sub_mod (by omega),ih (i-d) (by omega) (by omega),<-h i b];congr 2;omega
 apply wL;intro i;unfold copied;rw[f];by_cases hi:i<l
 ·rw[kE,zI hi,jQ hi,kM];show some ((ys.take q)[q-d+i%d]?.getD 0)=_;rw[key (i+1) i (by omega) hi,bV (by omega)];rfl
 ·rw[fZ (by simp;omega),fZ (by simp;omega)]
def XY (ys:aD)(q l:Nat):ys.take q++(ys.drop q).take l=ys.take (q+l):=by rw[List.take_add]
def Ah (ys:aD)(s:GS)(q l p:Nat)(f:s.out=ys.take q)(g:q+l<=ys.length):mM s ((ys.drop q).take l) p=if q+l<=s.most then .go { s with out:=ys.take (q+l),p:=p }else .no 11 (ys.take q++((ys.drop q).take l).take (s.most-q)):=by
 have b:(ys.take q).length=q:=by rw[dF];omega
 have d:((ys.drop q).take l).length=l:=by rw[dF,dX];omega
 unfold mM;rw[f,b,d,XY]
def Le {o b:List Bool}{p:Pc}{s:GS}(z:bQ o B)(A:o.length<=8*B.length)(r:∀i:Nat,L1[i]?.getD 0<=15)(I:∀i:Nat,L2[i]?.getD 0<=15)(v:fF L1=true)(R:p.l≠0->fF L2=true)(hn:Needs L1 L2 p)(k:NN ys q p)(T:q<ys.length)(n:BK L1 L2 p b)(S:s.place=2)(Q:s.ls=L1)(N:s.ld=L2)(C:s.out=ys.take q)(u:bC o s.p b):bM B s=if q+max 1 p.l<=s.most then .go { s with out:=ys.take (q+max 1 p.l),p:=s.p+b.length }else .no 11 (ys.take q++((ys.drop q).take (max 1 p.l)).take (s.most-q)):=by
 have f:=k.fits T;subst Q N;unfold bM;rw[aB (by omega),aA S];unfold uF;rcases n with⟨y,rfl⟩|⟨y,w,W,m1,D,G,m2,g,t,rfl⟩
 ·rcases hn with⟨_,j,hc⟩|⟨H,_⟩
  ·rw[CS z A r v hc u];dsimp only;rw[aA j,y];rcases k with⟨_,n⟩|⟨H,_⟩
   ·have e:[p.b]=(ys.drop q).take (max 1 0):=by
     rw[n,show max 1 0=1 from rfl,List.drop_eq_getElem_cons T,bV T];rfl
    rw[y]at f;rw[e,Ah ys s q (max 1 0) _ C f]
   ·omega
  ·omega
 ·rcases hn with⟨H,_⟩|⟨H,Y,ac,ad,J,K⟩
  ·omega
  ·have M:=J w W m1 g;have f1:bC o s.p (dN s.ls w):=u.left.left.left;have f2:=u.left.left.right;have f3:bC o (s.p+(dN s.ls w).length+m1) (dN s.ld D++numBits G m2):=by
    have e:dN s.ls w++numBits W m1++dN s.ld D++numBits G m2=(dN s.ls w++numBits W m1)++(dN s.ld D++numBits G m2):=(by simp only[dB]);rw[e]at u;have:=u.right;rw[aN,aM,<-iV]at this;exact this
   have hs:=CS z A r v M f1;have ab:=g.bd;rw[hs];dsimp only;rw[aB (by omega),aB (by omega)];unfold gCopy;rw[af0 z A g f2 (oV hs).2.1];dsimp only;rw[Tm z A I (R y) (K D G m2 t) t f3];dsimp only;rcases k with⟨h9,_⟩|⟨_,_,Z,h5,h6,h7,_,h8⟩
   ·omega
   ·have aa:s.out.length=q:=(by rw[C,dF];omega);rw[aB (by omega),C,Ej ys q p.d p.l h5 h7 Z h8,show max 1 p.l=p.l by omega,Ah ys s q p.l _ C Z];simp only[aN,aM,iV]
def aj0 (ys:aD)(q l m:Nat)(b:q<=m)(d:m<q+l):ys.take q++((ys.drop q).take l).take (m-q)=ys.take m:=by rw[List.take_take,vV (by omega),XY,show q+(m-q)=m by omega]
def NC {z:List Bool}(S:bQ z B)(T:z.length<=8*B.length)(C:∀i:Nat,L1[i]?.getD 0<=15)(D:∀i:Nat,L2[i]?.getD 0<=15)(H:fF L1=true):∀(u:List Pc) (b:List Bool) (q r:Nat) (s:GS),(∀p∈u,Needs L1 L2 p/\(p.l≠0->fF L2=true))->iT ys q u r->iX L1 L2 u b->s.place=2->s.ls=L1->s.ld=L2->s.out=ys.take q->q<=s.most->bC z s.p b->(r<=s.most->rT B s { s with out:=ys.take r,p:=s.p+b.length })/\(s.most<r->∃n,eZ B n s 11 (ys.take s.most) 0):=by
 intro u;induction u with
 |nil=>
  intro b q r s _ h o t k j N w G;have Q:q=r:=h;have R:b=[]:=o;subst Q R;refine⟨fun _=> ?_,fun h9=>by omega⟩;have:({ s with out:=ys.take q,p:=s.p+([]:List Bool).length }:GS)=s:=by cases s;simp_all
  rw[this];exact rT.refl _ _
 |cons p u ih=>
  intro b q r s hn h o t k j N w G;obtain⟨b1,b2,rfl,J,K⟩:=o;obtain⟨W,I,f⟩:=h;have v:=hn p (by simp);have g:=Le (s:=s) S T C D H v.2 v.1 I W J t k j N G.left;by_cases d:q+max 1 p.l<=s.most
  ·rw[aA d]at g;have M:=rT.one (by omega) g;have:=ih b2 (q+max 1 p.l) r { s with out:=ys.take (q+max 1 p.l),p:=s.p+b1.length } (fun x Z=>hn x (by simp[Z])) f K t k j rfl d G.right;refine⟨fun y=> ?_,fun y=> ?_⟩
   ·have A:=M.trans (this.1 y);rw[aN,<-iV];exact A
   ·obtain⟨n,A⟩:=this.2 y;exact M.run A
  ·rw[aB d]at g;have Y:=f.count;refine⟨fun y=>by omega,fun _=>⟨1,?_⟩⟩;rw[aj0 ys q (max 1 p.l) s.most w (by omega)]at g;exact .no s 11 _ (by omega) g
def wY (P ys:aD):Prop:=∀H X:aD,(∀i:Nat,(H++(P++X))[i]?.getD 0<256)->∀most,
 (ys.length<=most->∃n,eZ (H++(P++X)) n (qJ most (8*H.length)) 0 ys (8*(H.length+P.length)))/\
 (most<ys.length->∃n,eZ (H++(P++X)) n (qJ most (8*H.length)) 11 (ys.take most) 0)
def UN {bits:List Bool}(f:bQ bits P)(g:bits.length<=8*P.length)(H X:aD):bC (rM (H++(P++X))) (8*H.length) bits:=fun i hi=>by
 have b:8*H.length+i<8*(H++(P++X)).length:=by simp;omega
 have d:bK (H++(P++X)) (8*H.length+i)=bK P i:=by
  unfold bK;rw[show(8*H.length+i)/8=H.length+i/8 by omega,kZ (by omega),CB,jA (by omega),show(8*H.length+i)%8=i%8 by omega]
 unfold rM
 rw[kE,zI b]
 show some (decide (bK (H++(P++X)) (8*H.length+i)=1))=bits[i]?
 rw[d,f.bit i,bV hi]
 cases bits[i]<;>simp
def Gg {b:List Bool}{s:GS}(k:bQ b B)(l:b.length<=8*B.length)(d:∀i:Nat,L1[i]?.getD 0<=15)(g:fF L1=true)(n:iB L1 256)(j:s.place=2)(f:s.ls=L1)(o:bC b s.p (dN L1 256)):bM B s= .go (s.ended (s.p+(dN L1 256).length)):=by subst f;unfold bM;rw[aB (by omega),aA j];unfold uF;rw[CS k l d g n o];dsimp only;rw[aB (by omega),aA rfl]
def La {s:GS}(d:s.place=0)(h:KM B s.p last 1):bM B s= .go { s with last:=last,place:=2,ls:=aW,ld:=List.replicate 32 5,p:=s.p+3 }:=by
 unfold bM;rw[aB (by omega),aB (by omega)];unfold kL;rw[aA h.there,aB (by rw[h.ak9];omega),aA h.ak9];have b:(bK B s.p==1)=last:=by rw[h.ay6];cases last<;>rfl
 rw[b];rfl
def ar5 {k:Nat}{s:GS}(h:eZ B k s e out q)(d:e≠0):q=0:=by
 induction h with
 |done s h=>exact absurd rfl d
 |no s e out b h=>rfl
 |miss s b h=>rfl
 |go n s f e out q b h k ih=>exact ih d
def WV {bits:List Bool}(h:ad4 ys bits)(D:∀i:Nat,ys[i]?.getD 0<256)(y:bQ bits P)(A:P.length=(bits.length+7)/8):wY P ys:=by
 intro H X z most;obtain⟨J,pb,k,t,-,rfl⟩:=h;have b:=UN y (by omega) H X;have d:=FC _ z;have g:(rM (H++(P++X))).length<=8*(H++(P++X)).length:=by rw[rJ];omega
 have j:=KW d g (8*H.length) 1 true (by omega) b.left.left;have f:=D7 D k;have u:=La (B:=H++(P++X)) (s:=qJ most (8*H.length)) (last:=true) rfl j;have l1:=rT.one (by simp[qJ,rQ]) u;have l:bC (rM (H++(P++X))) (8*H.length+3) pb:=by
  have:=b.left.right;rw[aT]at this;exact this
 have l2:=NC d g vX YB CW J pb 0 ys.length { qJ most (8*H.length)with last:=true,place:=2,ls:=aW,ld:=List.replicate 32 5,p:=8*H.length+3 } (fun p hp=>⟨f p hp,fun _=>II⟩) k t rfl rfl rfl (by simp[qJ,rQ]) (by omega) l;refine⟨fun r=> ?_,fun r=> ?_⟩
 ·have G:=l1.trans (l2.1 r);have o:bC (rM (H++(P++X))) (8*H.length+3+pb.length) (dN aW 256):=by
   have:=b.right;rw[aN,aT,<-iV]at this;exact this
  have v:=Gg (s:={ qJ most (8*H.length)with last:=true,place:=2,ls:=aW,ld:=List.replicate 32 5,out:=ys.take ys.length,p:=8*H.length+3+pb.length }) d g vX CW (Y6 256 (by omega)) rfl rfl o;have I:=G.trans (rT.one (by simp) v);have w:(8*H.length+3+pb.length+(dN aW 256).length+7)/8*8=8*(H.length+P.length):=by
   rw[A];simp only[aN,aT];omega
  refine I.run (m:=0) ?_;have:=eZ.done (B:=H++(P++X)) (GS.ended { qJ most (8*H.length)with last:=true,place:=2,ls:=aW,ld:=List.replicate 32 5,out:=ys.take ys.length,p:=8*H.length+3+pb.length } (8*H.length+3+pb.length+(dN aW 256).length)) (by simp[GS.ended]);simp only[GS.ended,if_true,w,sI]at this|-
  exact this
 ·obtain⟨n,C⟩:=l2.2 r;exact l1.run C
def CQ (n m:Nat)(l:aD)(last:Bool)(h:n%8=m%8):bF n l last=bF m l last:=by unfold bF dW;rw[show(n+3)%8=(m+3)%8 by omega]
def a13 {A:List Bool}(G:bQ A B)(H:A.length<=8*B.length){n:Nat}{bits:List Bool}(h:wH n ys bits):∀(p:Nat) (s:PS),p%8=n%8->(∀y∈ys,y<256)->bC A p bits->s.place=0->s.p=p->s.out.length<=s.most->(s.out.length+ys.length<=s.most->∃s',Runs B s 0 s'/\s'.out=s.out++ys/\s'.p=(p+bits.length+7)/8*8)/\(s.most<s.out.length+ys.length->∃s',Runs B s 11 s'/\s'.out=s.out++ys.take (s.most-s.out.length)):=by
 induction h with
 |last n ys h=>
  intro p s hp v j k b l;rw[CQ n p ys true hp.symm]at j|-
  have hk:=UW G H p ys true v h j;refine⟨fun l=> ?_,fun f=>hk.much s k b l f⟩;obtain⟨d,a1,a2,D,r,t⟩:=hk.fits s k b l;exact⟨d,t _ _ ⟨0, .done d a1⟩,a2,r⟩
 |more n ys bits h N ih=>
  intro p s hp v j k b l;rw[CQ n p (ys.take 65535) false hp.symm]at j ih|-
  have hk:=UW G H p (ys.take 65535) false (fun y g=>v y (zN g)) (by rw[dF];omega) j.left;have u:(ys.take 65535).length=65535:=by rw[dF];omega
  by_cases f:s.most<s.out.length+65535
  ·refine⟨fun i=>by omega,fun _=> ?_⟩;obtain⟨s',r1,o⟩:=hk.much s k b l (by rw[u];exact f);refine⟨s',r1,?_⟩;rw[o,List.take_take,vV (by omega)]
  ·obtain⟨d,a1,a2,D,r,t⟩:=hk.fits s k b (by rw[u];omega);have M:d.out.length=s.out.length+65535:=(by rw[a2,aN,u]);have K:(ys.drop 65535).length=ys.length-65535:=(by rw[dX]);have z:d.p=p+(bF p (ys.take 65535) false).length:=r;have w:d.place=0:=a1;clear a1 r;have k1:s.out.length+ys.length<=s.most->d.out.length+(ys.drop 65535).length<=d.most:=fun i=>by omega
   have k2:s.most<s.out.length+ys.length->d.most<d.out.length+(ys.drop 65535).length:=fun i=>by omega
   have I:s.most-s.out.length=65535+(s.most-(s.out.length+65535)):=(by omega);have:=ih (p+(bF p (ys.take 65535) false).length) d (by omega) (fun y g=>v y (IC g)) j.right w z (by omega);refine⟨fun i=> ?_,fun i=> ?_⟩
   ·have C:=k1 i;obtain⟨s',r1,o,J⟩:=this.1 C;refine⟨s',t _ _ r1,?_,?_⟩
    ·rw[o,a2,dB,pJ]
    ·rw[J,aN,<-iV]
   ·have C:=k2 i;obtain⟨s',r1,o⟩:=this.2 C;refine⟨s',t _ _ r1,?_⟩;rw[o,a2,D,dB];congr 1;have e:s.most-s.out.length=65535+(s.most-(s.out++ys.take 65535).length):=(by rw[aN,u];exact I);rw[e,List.take_add]
def Ot (most p:Nat):Link { init most with p:=p } (qJ most p):=⟨rfl,rfl,rfl,rfl,rfl,rfl,fun h=>by simp[init]at h⟩
def X7 {bits:List Bool}(h:wH 0 ys bits)(u:∀y∈ys,y<256)(r:bQ bits P)(v:P.length=(bits.length+7)/8):wY P ys:=by
 intro H X t most;have b:=UN r (by omega) H X;have f:=FC _ t;have i:(rM (H++(P++X))).length<=8*(H++(P++X)).length:=by rw[rJ];omega
 have hs:=a13 f i h (8*H.length) { init most with p:=8*H.length } (by omega) u b rfl rfl (by simp[init]);refine⟨fun j=> ?_,fun j=> ?_⟩
 ·obtain⟨s',⟨n,l⟩,g,o⟩:=hs.1 (by simpa[init]using j);obtain⟨q,d,k⟩:=l.az1 _ (Ot most (8*H.length));rw[k rfl,o,g,show(8*H.length+bits.length+7)/8*8=8*(H.length+P.length) by omega]at d;exact⟨n,by simpa[init]using d⟩
 ·obtain⟨s',⟨n,l⟩,g⟩:=hs.2 (by simpa[init]using j);obtain⟨q,d,_⟩:=l.az1 _ (Ot most (8*H.length));rw[g]at d;have k:q=0:=ar5 d (by omega);rw[k]at d;exact⟨n,by simpa[init]using d⟩
def mQ (L:aD)(a i:Nat)(b:∀j,a<=j->often L j=0):often (L.take a) i=often L i:=by
 unfold often at*;by_cases hi:i<a
 ·rw[jQ hi]
 ·rw[b i (by omega),fZ (by rw[dF];omega)];rfl
def CR {L M:aD}(h:∀i,often L i=often M i)(l:Nat):∀n,dY L l n=dY M l n
 |0=>rfl
 |n+1=>by rw[dY,dY,CR h l n,iJ,iJ,h n]
def QV {L:aD}{l a:Nat}(b:l≠0)(f:∀j,a<=j->often L j=0):∀d,dY L l (a+d)=dY L l a
 |0=>rfl
 |d+1=>by
  rw[<-iV,dY,QV b f d,iJ,f _ (by omega),aB (fun e=>b e.symm)];rfl
def Py {L:aD}{a:Nat}(d:a<=L.length)(b:∀j,a<=j->often L j=0):∀l,nx (L.take a) l=nx L l
 |0=>rfl
 |l+1=>by
  rw[nx,nx,Py d b l,dF,vV d,CR (fun i=>mQ L a i b) (l+1) a]
  have:=QV (l:=l+1) (by omega) b (L.length-a)
  rw[show a+(L.length-a)=L.length by omega]at this
  rw[this]
def FV (d:a<=L.length)(b:∀j,a<=j->often L j=0)(s:Nat):Go.dM.keyOf (L.take a) s=Go.dM.keyOf L s:=by unfold Go.dM.keyOf;rw[iJ,iJ,mQ L a s b,Py d b,CR (fun i=>mQ L a i b)]
def TV (d:a<=L.length)(b:∀j,a<=j->often L j=0)(s:Nat):dN (L.take a) s=dN L s:=by unfold dN;rw[FV d b,iJ,iJ,mQ L a s b]
def LK {L M:aD}(h:∀i,often L i=often M i):∀n,iD L n=iD M n/\eG L n=eG M n
 |0=>⟨rfl,rfl⟩
 |n+1=>by rw[iD,iD,eG,eG,(LK h n).1,(LK h n).2,iJ,iJ,h n];exact⟨rfl,rfl⟩
def Ib {L:aD}{a:Nat}(b:∀j,a<=j->often L j=0):∀d,iD L (a+d)=iD L a/\eG L (a+d)=eG L a
 |0=>⟨rfl,rfl⟩
 |d+1=>by
  obtain⟨f,g⟩:=Ib b d
  rw[<-iV,iD,eG,f,g,iJ,b _ (by omega)]
  exact⟨rfl,rfl⟩
def EA (l:a<=L.length)(f:∀j,a<=j->often L j=0):fF (L.take a)=fF L:=by unfold fF;obtain⟨g,k⟩:=LK (fun i=>mQ L a i f) a;obtain⟨b,d⟩:=Ib f (L.length-a);rw[show a+(L.length-a)=L.length by omega]at b d;rw[dF,vV l,g,k,b,d]
def G7 (f:a<=L.length)(b:∀j,a<=j->often L j=0)(h:iB L s):iB (L.take a) s:=by
 have e:(L.take a)[s]?.getD 0=L[s]?.getD 0:=mQ L a s b;refine⟨?_,by rw[e];exact h.pos,by rw[e];exact h.le,by rw[e,FV f b];exact h.lo,by rw[e,FV f b];exact h.hi⟩;rw[dF,vV f];rcases mK s a with d|d
 ·exact d
 ·have:=h.pos;rw[iJ,b s d]at this;omega
def ae9 {b:List Bool}{l:List Bool}(h:bC b p l)(f:b.length<=8*B.length)(hp:p<=8*B.length):p+l.length<=8*B.length:=by
 by_cases d:l=[]
 ·subst d;simpa using hp
 ·exact uY h d f
def ao5 {row:aD}{t:Nat}(h:a+t<=row.length)(f:∀i,i<t->often row (a+i)=x):row.take a++List.replicate t x=row.take (a+t):=by
 apply wL;intro i;by_cases d:i<a
 ·rw[jA (by rw[dF];omega),jQ d,jQ (by omega)]
 ·rw[kZ (by rw[dF];omega),dF,vV (by omega),lY];by_cases b:i-a<t
  ·rw[aA b,jQ (by omega),bV (by omega)];have:=f (i-a) b;rw[show a+(i-a)=i by omega]at this;unfold often at this;rw[bV (by omega)]at this;rw[<-this];rfl
  ·rw[aB b,fZ (by rw[dF];omega)]
def a05 {row:aD}{D:List Bool}(J:bQ D B)(K:D.length<=8*B.length)(W:∀i:Nat,F[i]?.getD 0<=15)(Z:fF F=true){l:List Mk}(ht:gH row a l e)(N:e=row.length):∀(p b:Nat),(∀k∈l,iB F k.s)->bC D p (kN F l)->p<=8*B.length->row.length-a<=b->iC (aI F) B row.length b p (row.take a)= .ok row (p+(kN F l).length):=by
 induction ht with
 |nil a=>
  intro p b _ _ _ Y;subst N;rw[sI];cases b with
  |zero=>rfl
  |succ n=>rw[iC,aA (aS _)];rfl
 |cons a k t l e hk _ r ih=>
  intro p b M g hp Y;have Q:=hk.pos;have G:=hk.1;obtain⟨n,rfl⟩:∃n,b=n+1:=⟨b-1,by omega⟩
  have S:kN F (k::l)=dN F k.s++numBits k.x k.m++kN F l:=by simp[kN]
  rw[S]at g|-
  have A:=CS J K W Z (M k (by simp)) g.left.left;have hq:=(oV A).2.1;have d:=mR J _ k.x k.m g.left.right;have f:=Jp g.left.right K hq;have z:(row.take a).length=a:=by rw[dF];omega
  have j:=ih N (p+(dN F k.s).length+k.m) n (fun k' H=>M k' (by simp[H])) (by
   have:=g.right;rw[aN,aM,<-iV]at this;exact this) f (by omega)
  rw[iC,z,aB (by omega),A];dsimp only
  have fin:∀v,fO B (p+(dN F k.s).length) k.s (row.take a)= .ok (v,t) (p+(dN F k.s).length+k.m)->(∀i,i<t->often row (a+i)=v)->¬(k.s=16/\a=0)->
    (if k.s=16/\a=0 then R.no 8 else match fO B (p+(dN F k.s).length) k.s (row.take a)with
     | .no e=> .no e
     | .miss=> .miss
     | .ok lt q'=>if row.length<a+lt.2 then .no 8 else iC (aI F) B row.length n q' (row.take a++List.replicate lt.2 lt.1))= .ok row (p+(dN F k.s++numBits k.x k.m++kN F l).length):=fun v hv hx I=>by
   rw[aB I,hv];dsimp only;rw[aB (by omega),ao5 G hx,j];congr 1;simp only[aN,aM];omega
  rcases hk.2 with⟨o,u,w,C,y⟩|⟨o,u,w,C,y,T⟩|⟨o,u,w,C,y⟩|⟨o,u,w,C,y⟩
  ·refine fin k.s ?_ (fun i hi=> ?_) (by omega)
   ·unfold fO;rw[aA (by omega),C,y,lN]
   ·rw[show i=0 by omega,lN];exact o.symm
  ·refine fin (often row (a-1)) ?_ T (by omega);unfold fO;rw[u]at d f|-
   rw[aB (by omega),aA o,aA f,d,kC (by omega),z,jQ (by omega),w];rfl
  ·refine fin 0 ?_ y (by omega);unfold fO;rw[u]at d f|-
   rw[aB (by omega),aB (by omega),aA o,aA f,d,kC (by omega),w]
  ·refine fin 0 ?_ y (by omega);unfold fO;rw[u]at d f|-
   rw[aB (by omega),aB (by omega),aB (by omega),aA f,d,kC (by omega),w]
def Kg {b:List Bool}(h:bC b q (oN F c)):∀k,k<c->bC b (q+3*k) (numBits (often F (bP[k]?.getD 0)) 3):=by
 induction c with
 |zero=>intro k hk;omega
 |succ c ih=>
  intro k hk;rw[yU]at h;by_cases e:k=c
  ·subst e;have:=h.right;rw[kJ]at this;exact this
  ·exact ih h.left k (by omega)
def Uf:∀i,i<19->∃j,j<19/\bP[j]?.getD 0=i:=by decide
def Ba {o:List Bool}(u:bQ o B)(z:F.length=19)(v:∀i,often F i<=7)(h:bC o q (oN F c))(w:∀i,c<=i->i<19->often F (bP[i]?.getD 0)=0):bD B q c=F:=by
 have hn:∀k,k<c->aG B (q+3*k) 3=often F (bP[k]?.getD 0):=fun k hk=>by
  rw[mR u _ _ 3 (Kg h k hk)];exact kC (by have:=v (bP[k]?.getD 0);omega)
 have key:∀i k,k<=c->(wI B q k i=often F i\/(wI B q k i=0/\∀j,j<k->bP[j]?.getD 0≠i)):=fun i k=>by
  induction k with
  |zero=>intro _;exact .inr ⟨rfl,fun j l=>by omega⟩
  |succ k ih=>
   intro hk;rw[wI];by_cases e:i=bP[k]?.getD 0
   ·rw[aA e,hn k (by omega),<-e];exact .inl rfl
   ·rw[aB e];rcases ih (by omega)with b|⟨b,g⟩
    ·exact .inl b
    ·refine .inr ⟨b,fun j l=> ?_⟩;rcases mK j k with d|d
     ·exact g j d
     ·rw[show j=k by omega];exact fun y=>e y.symm
 apply wL;intro i;by_cases hi:i<19
 ·have r:(bD B q c)[i]? =some (wI B q c i):=by unfold bD;rw[kE,zI hi];rfl
  have t:F[i]? =some (often F i):=by unfold often;rw[bV (by omega)];rfl
  rw[r,t];congr 1;rcases key i c (aS _)with b|⟨b,g⟩
  ·exact b
  ·obtain⟨j,l,f⟩:=Uf i hi;rw[b];have n:c<=j:=by
    rcases mK j c with d|d
    ·exact absurd f (g j d)
    ·exact d
   rw[<-f,w j n l]
 ·rw[fZ (by rw[jD];omega),fZ (by omega)]
def Ak {ps:List Pc}{b:Nat}{l:List Mk}{z:List Bool}(u:bQ z B)(H:z.length<=8*B.length)(d:Fits ps L1 L2)(f:M8 L1 L2 a b c F l)(h:bC z p (jL a b c F l)):bW B p= .ok (L1.take a,L2.take b) (p+(jL a b c F l).length):=by
 have W:=f.a1;have G:=f.a2;have Y:=f.b1;have I:=f.b2;have Z:=f.c1;have aa:=f.c2;have D:F.length=19:=by rw[f.fs,cK,fI]
 have v:∀i,often F i<=7:=fun i=>by rw[f.fs];exact rV _ _ _ (by omega) (by rw[fI];decide)
 have j:∀i:Nat,F[i]?.getD 0<=15:=fun i=>by rw[iJ];have:=v i;omega
 unfold jL at h|-
 have f1:=h.left.left.left.left;have f2:=h.left.left.left.right;have A:=h.left.left.right;have f4:=h.left.right;have Q:=h.right;rw[aM]at f2;rw[aN,aM,aM,<-iV]at A;rw[aN,aN,aM,aM,aM]at f4;rw[aN,aN,aN,aM,aM,aM,kJ]at Q;have n1:=mR u p _ 5 f1;have n2:=mR u _ _ 5 f2;have n3:=mR u _ _ 4 A;rw[kC (by omega)]at n1 n2 n3;have N:=uY A (fun e=>by have:=lZ List.length e;simp[aM]at this) H;rw[aM]at N;have ET:=ae9 f4 H (by omega);rw[kJ]at ET;have J:=Ba u D v f4 f.cz;have w:∀x∈l,iB F x.s:=fun x R=>by
  have S:=(f.tells.sym x R).1;have g:=D9 R (by omega);rw[<-f.fs]at g;exact qD j g.1 (by omega) g.2
 have l1:(L1.take a).length=a:=by rw[dF,d.l1];omega
 have l2:(L2.take b).length=b:=by rw[dF,d.l2];omega
 have o:fF F=true:=by
  cases l with
  |nil=>have:=f.tells.nil_eq;omega
  |cons x l=>
   have g:=D9 (l:=x::l) (k:=x) (by simp) (by have:=(f.tells.sym x (by simp)).1;omega);rw[<-f.fs]at g;exact g.1
 have y:(L1.take a++L2.take b).length=a+b:=by rw[aN,l1,l2]
 have r:=a05 u H j o f.tells y.symm (p+(5+5+4+3*c)) (a+b) w Q (by omega) (by omega);rw[y,uS]at r;unfold bW;rw[aA (by omega)];dsimp only;rw[n1,n2,show p+10=p+5+5 by omega,n3,show a-257+257=a by omega,show b-1+1=b by omega,show c-4+4=c by omega,aB (by omega),aA (by omega),show p+14=p+(5+5+4) by omega,J,aA o];unfold NM;rw[show p+(5+5+4)+3*c=p+(5+5+4+3*c) by omega,r];dsimp only;unfold pI;have t1:(L1.take a++L2.take b).take a=L1.take a:=by rw[UA (by omega),kW (by omega)]
 have t2:(L1.take a++L2.take b).drop a=L2.take b:=by rw[GK,J8 (by omega),l1,uL];rfl
 have t:0<(L1.take a++L2.take b)[256]?.getD 0:=by
  rw[jA (by omega),jQ (by omega)];exact d.end_.pos
 have K:fF (L1.take a)=true:=by rw[EA (by rw[d.l1];exact G) f.az];exact d.aE0
 have M:p9 (L2.take b)=true:=by
  unfold p9;rcases d.aG9 with C|C
  ·have:eG (L2.take b) (L2.take b).length=0:=by
    have hz:∀n,eG (L2.take b) n=0:=fun n=>by
     induction n with
     |zero=>rfl
     |succ n ih=>
      have T:(L2.take b)[n]?.getD 0=0:=(by rw[iJ,mQ L2 b n f.bz];exact C n);rw[eG,ih,T];rfl
    exact hz _
   rw[this];rfl
  ·rw[EA (by rw[d.l2];exact I) f.bz,C,Bool.or_true]
 rw[t1,t2,aA ⟨t,K,M⟩];congr 1;simp only[aN,aM,kJ];omega
def Wh {s:GS}(f:s.place=0)(h:KM B s.p last 2)(d:bW B (s.p+3)= .ok (L1,L2) q):bM B s= .go { s with last:=last,place:=2,ls:=L1,ld:=L2,p:=q }:=by
 unfold bM;rw[aB (by omega),aB (by omega)];unfold kL;rw[aA h.there,aB (by rw[h.ak9];omega),aB (by rw[h.ak9];omega),aA h.ak9,d];have b:(bK B s.p==1)=last:=by rw[h.ay6];cases last<;>rfl
 dsimp only;rw[b]
def ND {L1 L2 j k:aD}(g:∀s,dN j s=dN L1 s)(l:∀s,dN k s=dN L2 s):∀(d:List Pc) (b:List Bool),iX L1 L2 d b->iX j k d b
 |[],_,h=>h
 |p::d,_,⟨b1,b2,hb,hp,hr⟩=>by
  refine⟨b1,b2,hb,?_,ND g l d b2 hr⟩
  rcases hp with⟨f,i⟩|⟨f,s,x,m,r,t,m2,o,n,i⟩
  ·exact .inl ⟨f,by rw[g];exact i⟩
  ·exact .inr ⟨f,s,x,m,r,t,m2,o,n,by rw[g,l];exact i⟩
def EX {ys:aD}:∀(n:Nat) (ps:List Pc) (q r:Nat),iT ys q ps r->∃m,iT ys q (ps.take n) m/\iT ys m (ps.drop n) r
 |0,ps,q,r,h=>⟨q,rfl,h⟩
 |n+1,[],q,r,h=>⟨q,rfl,h⟩
 |n+1,p::ps,q,r,h=>by
  obtain⟨b,d,f⟩:=h
  obtain⟨m,k1,k2⟩:=EX n ps _ r f
  exact⟨m,⟨b,d,k1⟩,k2⟩
def TY {w I:List Bool}{o:List Pc}{r:Nat}{s:GS}(t:bQ w B)(u:w.length<=8*B.length)(h:BJ last o I)(C:iT ys q o r)(h0:s.place=0)(ho:s.out=ys.take q)(D:q<=s.most)(v:bC w s.p I):(r<=s.most->∃L1 L2,rT B s (GS.ended { s with last:=last,place:=2,ls:=L1,ld:=L2,out:=ys.take r } (s.p+I.length)))/\(s.most<r->∃n,eZ B n s 11 (ys.take s.most) 0):=by
 obtain⟨L1,L2,a,b,c,F,l,bits,f,d,A,aa,rfl⟩:=h;have g:=KW t u s.p 2 last (by omega) v.left.left.left;have f2:=v.left.left.right;rw[aT]at f2;have H:=Ak t u f d f2;have S:=Wh (s:=s) h0 g H;have l1:=rT.one (by omega) S;have N:∀s,dN (L1.take a) s=dN L1 s:=TV (by rw[f.l1];exact d.a2) d.az;have z2:∀s,dN (L2.take b) s=dN L2 s:=TV (by rw[f.l2];exact d.b2) d.bz;have k:fF (L1.take a)=true:=by rw[EA (by rw[f.l1];exact d.a2) d.az];exact f.aE0
 have z:∀s,iB L1 s->iB (L1.take a) s:=fun s=>G7 (by rw[f.l1];exact d.a2) d.az;have Z:∀s,iB L2 s->iB (L2.take b) s:=fun s=>G7 (by rw[f.l2];exact d.b2) d.bz;have le1:∀i:Nat,(L1.take a)[i]?.getD 0<=15:=fun i=>by rw[iJ,mQ L1 a i d.az];exact f.le1 i
 have le2:∀i:Nat,(L2.take b)[i]?.getD 0<=15:=fun i=>by rw[iJ,mQ L2 b i d.bz];exact f.le2 i
 have j:∀p∈o,Needs (L1.take a) (L2.take b) p/\(p.l≠0->fF (L2.take b)=true):=fun p hp=>by
  obtain⟨n1,n2⟩:=f.need p hp;refine⟨?_,fun y=>by rw[EA (by rw[f.l2];exact d.b2) d.bz];exact n2 y⟩;rcases n1 with⟨J,K,M⟩|⟨J,K,M,x4,x5,x6⟩
  ·exact .inl ⟨J,K,z _ M⟩
  ·exact .inr ⟨J,K,M,x4,fun s x m hh=>z _ (x5 s x m hh),fun s x m hh=>Z _ (x6 s x m hh)⟩
 have Q:=v.left.right;rw[aN,aT,<-iV]at Q;have l2:=NC t u le1 le2 k o bits q r { s with last:=last,place:=2,ls:=L1.take a,ld:=L2.take b,p:=s.p+3+(jL a b c F l).length } j C (ND N z2 o bits A) rfl rfl rfl ho D Q;refine⟨fun G=> ?_,fun G=> ?_⟩
 ·have l3:=l1.trans (l2.1 G);have f4:=v.right;rw[aN,aN,aT]at f4;have T:=Gg (s:={ s with last:=last,place:=2,ls:=L1.take a,ld:=L2.take b,out:=ys.take r,p:=s.p+3+(jL a b c F l).length+bits.length }) t u le1 k (z _ f.end_) rfl rfl (by
   rw[N];have Y:s.p+3+(jL a b c F l).length+bits.length=s.p+(3+(jL a b c F l).length+bits.length):=(by omega);rw[Y];exact f4)
  refine⟨L1.take a,L2.take b,?_⟩;have R:=l3.trans (rT.one (by simp) T);have W:s.p+3+(jL a b c F l).length+bits.length+(dN (L1.take a) 256).length=s.p+(bS last 2++jL a b c F l++bits++dN L1 256).length:=by
   rw[N];simp only[aN,aT];omega
  rw[W]at R;exact R
 ·obtain⟨n,hg⟩:=l2.2 G;exact l1.run hg
def Zg {o:List Bool}(v:bQ o B)(w:o.length<=8*B.length){i:List Pc}{bits:List Bool}(h:zB i bits):∀(q:Nat) (s:GS),iT ys q i ys.length->s.place=0->s.out=ys.take q->q<=s.most->bC o s.p bits->(ys.length<=s.most->∃n,eZ B n s 0 ys ((s.p+bits.length+7)/8*8))/\(s.most<ys.length->∃n,eZ B n s 11 (ys.take s.most) 0):=by
 induction h with
 |last i j z u=>
  intro q s b r t d l;have hk:=TY v w u b r t d l;refine⟨fun A=> ?_,hk.2⟩;obtain⟨L1,L2,l1⟩:=hk.1 A;refine l1.run (m:=0) ?_;have:=eZ.done (B:=B) (GS.ended { s with last:=true,place:=2,ls:=L1,ld:=L2,out:=ys.take ys.length } (s.p+j.length)) (by simp[GS.ended]);simp only[GS.ended,if_true,sI]at this|-
  exact this
 |more i j bits z u G ih=>
  intro q s b r t d l;obtain⟨m,D,p2⟩:=EX 16384 i q ys.length b;have hk:=TY v w u D r t d l.left;have C:m<=ys.length:=by have:=p2.count;omega
  by_cases g:m<=s.most
  ·obtain⟨L1,L2,l1⟩:=hk.1 g;have hi:=ih m (GS.ended { s with last:=false,place:=2,ls:=L1,ld:=L2,out:=ys.take m } (s.p+j.length)) p2 (by simp[GS.ended]) (by simp[GS.ended]) (by simp[GS.ended];exact g) (by simpa[GS.ended]using l.right);simp only[GS.ended]at hi l1;refine⟨fun k=> ?_,fun k=> ?_⟩
   ·obtain⟨n,f⟩:=hi.1 k;have y:s.p+(j++bits).length=s.p+j.length+bits.length:=(by rw[aN];omega);rw[y];exact l1.run (by simpa using f)
   ·obtain⟨n,f⟩:=hi.2 k;exact l1.run (by simpa using f)
  ·obtain⟨n,f⟩:=hk.2 (by omega);exact⟨fun k=>by omega,fun _=>⟨n,f⟩⟩
def Vi {bits:List Bool}{k:List Pc}(h:zB k bits)(i:iT ys 0 k ys.length)(o:bQ bits P)(t:P.length=(bits.length+7)/8):wY P ys:=by
 intro H X r most;have b:=UN o (by omega) H X;have d:=FC _ r;have f:(rM (H++(P++X))).length<=8*(H++(P++X)).length:=by rw[rJ];omega
 have hs:=Zg d f h 0 (qJ most (8*H.length)) i rfl (by simp[qJ,rQ]) (by omega) b;refine⟨fun g=> ?_,fun g=>hs.2 g⟩;obtain⟨n,j⟩:=hs.1 g;have e:(8*H.length+bits.length+7)/8*8=8*(H.length+P.length):=by omega
 have l:(qJ most (8*H.length)).p=8*H.length:=rfl;rw[l,e]at j;exact⟨n,j⟩
def wU (A C:aD)(i:Nat):(A++C)[A.length+i]?.getD 0=C[i]?.getD 0:=by rw[kZ (by omega),CB]
def rE (B:aD)(k:Nat):aG B (8*k) 8=B[k]?.getD 0%256:=LH B k 8 (aS _)
def Ol (A C:aD)(x:Nat)(i:x<4294967296):aG (A++(ET x++C)) (8*A.length) 32=x:=by rw[show(32:Nat)=8+(8+(8+8)) from rfl,DL,DL,DL,show 8*A.length+8=8*(A.length+1) by omega,show 8*(A.length+1)+8=8*(A.length+2) by omega,show 8*(A.length+2)+8=8*(A.length+3) by omega,rE,rE,rE,rE];have b:=wU A (ET x++C) 0;have d:=wU A (ET x++C) 1;have f:=wU A (ET x++C) 2;have g:=wU A (ET x++C) 3;rw[lN]at b;rw[b,d,f,g];simp[ET];omega
def ai6 (A C:aD)(x:Nat)(b:x<4294967296):jB (A++(OO x++C)) (8*A.length) 4=x:=by unfold jB jB jB jB jB;rw[show 8*A.length+8*0=8*(A.length+0) by omega,show 8*A.length+8*1=8*(A.length+1) by omega,show 8*A.length+8*2=8*(A.length+2) by omega,show 8*A.length+8*3=8*(A.length+3) by omega,rE,rE,rE,rE];rw[wU A (OO x++C) 0,wU A (OO x++C) 1,wU A (OO x++C) 2,wU A (OO x++C) 3];simp[OO];omega
def aw1 (ys:aD):aL 0 ys<4294967296:=iW 0 ys
def aB4 (ys:aD):dZ 1 ys<4294967296:=vB 1 (by decide) ys
def yD (P ys X:aD):aD:=P++(ET (aL 0 ys)++(ET ys.length++X))
def OA (h:iR B)(i:Nat):B[i]?.getD 0<256:=by
 rcases mK i B.length with y|y
 ·rw[bV y];exact h _ (vE y)
 ·rw[fZ y];exact(by decide)
def ak0 {H:aD}{nm:aD}(k:wY P ys)(j:iR (H++yD P ys X))(l:ys.length<4294967296):(ys.length<=most->rY (H++yD P ys X) most (8*H.length) nm 0 ys (H.length+P.length+8) nm)/\(most<ys.length->rY (H++yD P ys X) most (8*H.length) nm 11 (ys.take most) 0 nm):=by
 have f:=k H (ET (aL 0 ys)++(ET ys.length++X)) (OA j) most;refine⟨fun d=> ?_,fun d=> ?_⟩
 ·obtain⟨n,b⟩:=f.1 d;refine⟨n,0,ys,_,b,?_⟩;rw[aA rfl];have g:H++yD P ys X=(H++P)++(ET (aL 0 ys)++(ET ys.length++X)):=by simp[yD]
  have i:H++yD P ys X=(H++P++ET (aL 0 ys))++(ET ys.length++X):=by simp[yD]
  have o:(H++yD P ys X).length=H.length+P.length+8+X.length:=by simp[yD,ET];omega
  have n1:=Ol (H++P) (ET ys.length++X) (aL 0 ys) (aw1 ys);have n2:=Ol (H++P++ET (aL 0 ys)) X ys.length l;rw[<-g,aN]at n1;rw[<-i,aN,aN,show(ET (aL 0 ys)).length=4 from rfl,show 8*(H.length+P.length+4)=8*(H.length+P.length)+32 by omega]at n2;unfold pF;rw[aA (by omega),aA n1];unfold BZ;refine⟨rfl,rfl,?_⟩;rw[aA (by omega),aA n2];exact⟨rfl,by omega⟩
 ·obtain⟨n,b⟩:=f.2 d;refine⟨n,11,_,0,b,?_⟩;rw[aB (by omega)];exact⟨rfl,rfl,rfl,rfl⟩
def Hf {f:Nat}{used:Nat}{name:aD}(k:10<=B.length)(b:B[0]?.getD 0=31)(d:B[1]?.getD 0=139)(g:B[2]?.getD 0=8)(i:B[3]?.getD 0=f)(j:f<32)(h:kT B most f 80 e out used name):xA B most e out used name:=by have n0:=rE B 0;have n1:=rE B 1;have n2:=rE B 2;have n3:=rE B 3;rw[b]at n0;rw[d]at n1;rw[g]at n2;rw[i,kC (by omega)]at n3;unfold xA mO;rw[aA (by omega),aA n0];unfold gz1 mO;rw[aA (by omega),aA n1];unfold gz2 mO;rw[aA (by omega),aA n2];unfold jU;rw[aA (by omega),show(24:Nat)=8*3 from rfl,n3,aA j];unfold qA;rw[aA (by omega)];exact h
def Al {used:Nat}{name:aD}(h:rY B most p [] e out used name):kT B most 0 p e out used name:=by unfold kT;rw[aB (by omega)];unfold jW;rw[aB (by omega)];unfold gX;rw[aB (by omega)];unfold jG;rw[aB (by omega)];exact h
def Ue (i:wY P ys)(d:iR (lJ P ys++X))(k:ys.length<4294967296):(ys.length<=most->xA (lJ P ys++X) most 0 ys (lJ P ys).length [])/\(most<ys.length->xA (lJ P ys++X) most 11 (ys.take most) 0 []):=by
 have e:lJ P ys++X=([31,139,8]++List.replicate 7 0)++yD P ys X:=by simp[lJ,yD]
 have j:(lJ P ys).length=10+P.length+8:=by simp[lJ,ET];omega
 rw[e]at d;have g:=ak0 (most:=most) (nm:=[]) i d k;rw[e,j];refine⟨fun b=> ?_,fun b=> ?_⟩
 ·exact Hf (f:=0) (by simp[yD]) rfl rfl rfl rfl (by omega) (Al (g.1 b))
 ·exact Hf (f:=0) (by simp[yD]) rfl rfl rfl rfl (by omega) (Al (g.2 b))
def Yz (j:wY P ys)(g:iR (lK P ys++X)):(ys.length<=most->xO (lK P ys++X) most 0 ys (lK P ys).length)/\(most<ys.length->xO (lK P ys++X) most 11 (ys.take most) 0):=by
 have e:lK P ys++X=[120,1]++(P++(OO (dZ 1 ys)++X)):=by simp[lK]
 have k:(lK P ys).length=2+P.length+4:=by simp[lK,OO];omega
 rw[e]at g;have i:=j [120,1] (OO (dZ 1 ys)++X) (OA g) most;rw[e,k];have d:([120,1]++(P++(OO (dZ 1 ys)++X))).length=2+P.length+4+X.length:=by simp[OO];omega
 have n0:aG ([120,1]++(P++(OO (dZ 1 ys)++X))) 0 8=120:=by rw[show 0=8*0 from rfl,rE];rfl
 have n1:aG ([120,1]++(P++(OO (dZ 1 ys)++X))) 8 8=1:=by rw[show 8=8*1 from rfl,rE];rfl
 unfold xO UK;rw[aA (by omega),n0,aA (by decide),aA (by omega),n1,aA (by decide),aA (by omega),aA (by decide),aA (by omega),aA (by decide)];refine⟨fun f=> ?_,fun f=> ?_⟩
 ·obtain⟨n,b⟩:=i.1 f;refine⟨n,0,ys,_,b,?_⟩;rw[aA rfl];unfold I7;have n2:=ai6 ([120,1]++P) X (dZ 1 ys) (aB4 ys);rw[dB,aN]at n2;refine⟨rfl,?_⟩;rw[aA (by simp at d |-;omega),aA n2];exact⟨rfl,by simp⟩
 ·obtain⟨n,b⟩:=i.2 f;refine⟨n,11,_,0,b,?_⟩;rw[aB (by omega)];exact⟨rfl,rfl,rfl⟩
end Go.Proofs.YtbpahojchgpdnaaGreatDoor
