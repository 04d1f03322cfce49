import Derived.Test.YtbpahojchgpdnaaGreatDoorGround
import Derived.Shelf.SlSortCmp.ReverseRangeK
set_option maxRecDepth 20000
set_option maxHeartbeats 4000000
set_option linter.all false
namespace Go.dM
variable {blk c hi i lo n off p q s:Nat} {W w0:aH}
structure Pa where
 c:Nat
 s:aD
def eY:List Pa->Nat->Nat
 |[],_=>0
 |p::l,i=>p.s.count i+eY l i
def xP:List Pa->List Pa->List Pa
 |[],Q=>Q
 |s::S,[]=>s::S
 |s::S,q::Q=>if s.c<=q.c then s::xP S (q::Q)else q::xP (s::S) Q
termination_by S Q=>S.length+Q.length
def pairUp:List Pa->List Pa
 |a::b::r=>⟨a.c+b.c,a.s++b.s⟩::pairUp r
 |_=>[]
def lF (S:List Pa):Nat->List Pa
 |0=>[]
 |k+1=>xP S (pairUp (lF S k))
def yJ:∀S Q:List Pa,(xP S Q).length=S.length+Q.length
 |[],Q=>by simp[xP]
 |s::S,[]=>by simp[xP]
 |s::S,q::Q=>by
  rw[xP]
  split
  ·rw[iN,yJ S (q::Q)];simp;omega
  ·rw[iN,yJ (s::S) Q];simp;omega
termination_by S Q=>S.length+Q.length
def ZI:∀(S Q:List Pa) (p:Pa),p∈xP S Q->p∈S\/p∈Q
 |[],Q,p,h=>by rw[xP]at h;exact .inr h
 |s::S,[],p,h=>by rw[xP]at h;exact .inl h
 |s::S,q::Q,p,h=>by
  rw[xP]at h
  split at h
  ·rcases fE.1 h with rfl|h
   ·exact .inl (by simp)
   ·rcases ZI S (q::Q) p h with h|h
    ·exact .inl (by simp[h])
    ·exact .inr h
  ·rcases fE.1 h with rfl|h
   ·exact .inr (by simp)
   ·rcases ZI (s::S) Q p h with h|h
    ·exact .inl h
    ·exact .inr (by simp[h])
termination_by S Q=>S.length+Q.length
def mW:∀l:List Pa,(pairUp l).length=l.length/2
 |[]=>by simp[pairUp]
 |[_]=>by simp[pairUp]
 |a::b::r=>by rw[pairUp,iN,mW r];simp;omega
def TN (i:Nat):∀(l:List Pa) (b:Nat),b<=(pairUp l).length->eY ((pairUp l).take b) i=eY (l.take (2*b)) i
 |[],b,h=>by simp[pairUp,eY]
 |[_],b,h=>by
  have:b=0:=by simpa[pairUp]using h
  subst this
  simp[eY]
 |x::y::r,b,h=>by
  cases b with
  |zero=>simp[eY]
  |succ b=>
   rw[pairUp,zK,show 2*(b+1)=(2*b)+1+1 by omega,zK,zK,eY,eY,eY,TN i r b (by rw[pairUp]at h;simpa using h),List.count_append]
   omega
def Yu:∀(m:Nat) (S Q:List Pa),S.Pairwise (fun x y=>x.c<=y.c)->m<=S.length+Q.length->∃a b,a+b=m/\a<=S.length/\b<=Q.length/\(∀i,eY ((xP S Q).take m) i=eY (S.take a) i+eY (Q.take b) i)/\∀q∈Q.take b,∀s∈S.drop a,q.c<s.c:=by
 intro m;induction m with
 |zero=>intro S Q _ _;exact⟨0,0,rfl,by omega,by omega,fun i=>by simp[eY],fun q l=>by simp at l⟩
 |succ m ih=>
  intro S Q k e;cases S with
  |nil=>exact⟨0,m+1,by omega,by omega,by simpa using e,fun i=>by rw[xP];simp[eY],fun q _ s hs=>by simp at hs⟩
  |cons s S=>
   cases Q with
   |nil=>exact⟨m+1,0,by omega,by simpa using e,by omega,fun i=>by rw[xP];simp[eY],fun q l=>by simp at l⟩
   |cons q Q=>
    rw[xP];by_cases v:s.c<=q.c
    ·rw[aA v];obtain⟨a,b,w,t,u,g,j⟩:=ih S (q::Q) (qV.1 k).2 (by simp at e |-;omega);refine⟨a+1,b,by omega,by simp;omega,u,fun i=> ?_,fun x d y f=>j x d y (by simpa using f)⟩;rw[zK,zK,eY,eY,g i];omega
    ·rw[aB v];obtain⟨a,b,w,t,u,g,j⟩:=ih (s::S) Q k (by simp at e |-;omega);refine⟨a,b+1,by omega,t,by simp;omega,fun i=> ?_,fun x d y f=> ?_⟩
     ·rw[zK,zK,eY,eY,g i];omega
     ·rw[zK]at d;rcases fE.1 d with rfl|d
      ·have o:=IC f;rcases fE.1 o with rfl|r
       ·omega
       ·have:=(qV.1 k).1 y r;omega
      ·exact j x d y f
def gT (g:Nat->Nat):aD->Nat
 |[]=>0
 |x::l=>g x+gT g l
def Cr (g:Nat->Nat)(a b:aD):gT g (a++b)=gT g a+gT g b:=by
 induction a with
 |nil=>simp[gT]
 |cons x a ih=>rw[jZ,gT,gT,ih];omega
def wF {g h:Nat->Nat}{l:aD}(e:∀i∈l,g i=h i):gT g l=gT h l:=by
 induction l with
 |nil=>rfl
 |cons x l ih=>rw[gT,gT,e x (by simp),ih (fun i hi=>e i (by simp[hi]))]
def Tk (g:Nat->Nat)(k:Nat)(l:aD):gT (fun i=>k+g i) l=l.length*k+gT g l:=by
 induction l with
 |nil=>simp[gT]
 |cons x l ih=>rw[gT,gT,ih,iN,Nat.succ_mul];omega
def mk1 (f:Nat->Nat)(i:Nat):Pa:=⟨f i,[i]⟩
def Ew (f:Nat->Nat)(i:Nat)(l:aD):eY (l.map (mk1 f)) i=l.count i:=by
 induction l with
 |nil=>rfl
 |cons x l ih=>
  rw[uI,eY,ih,mk1,List.count_cons,List.count_cons,List.count_nil];omega
def ai1 {l:List Pa}(h:0<eY l i):∃p∈l,i∈p.s:=by
 induction l with
 |nil=>simp[eY]at h
 |cons x l ih=>
  rw[eY]at h;by_cases d:0<x.s.count i
  ·exact⟨x,by simp,List.count_pos_iff.1 d⟩
  ·obtain⟨p,a,b⟩:=ih (by omega);exact⟨p,by simp[a],b⟩
def Zp (f:Nat->Nat)(p:Pa):Prop:=∀i∈p.s,f i<=p.c
def KO (f:Nat->Nat):∀l:List Pa,(∀p∈l,Zp f p)->∀p∈pairUp l,Zp f p
 |[],_,p,hp=>by simp[pairUp]at hp
 |[_],_,p,hp=>by simp[pairUp]at hp
 |x::y::r,h,p,hp=>by
  rw[pairUp]at hp
  rcases fE.1 hp with rfl|hp
  ·intro i hi
   rcases iF.1 hi with hi|hi
   ·have:=h x (by simp) i hi
    show f i<=x.c+y.c
    omega
   ·have:=h y (by simp) i hi
    show f i<=x.c+y.c
    omega
  ·exact KO f r (fun q a=>h q (by simp[a])) p hp
def am8 (f:Nat->Nat)(sy:aD):∀k,∀p∈lF (sy.map (mk1 f)) k,Zp f p:=by
 intro k;induction k with
 |zero=>intro p hp;simp[lF]at hp
 |succ k ih=>
  intro p hp;rw[lF]at hp;rcases ZI _ _ _ hp with hp|hp
  ·obtain⟨i,_,rfl⟩:=sU.1 hp;intro j a;have:j=i:=(by simpa[mk1]using a);subst this;exact aS _
  ·exact KO f _ ih p hp
def count_one {l:aD}(h:l.Nodup)(hi:i∈l):l.count i=1:=by
 induction l with
 |nil=>simp at hi
 |cons x l ih=>
  rw[IK]at h;rw[List.count_cons];by_cases e:x=i
  ·subst e;rw[List.count_eq_zero.2 h.1];simp
  ·have:i∈l:=by
    rcases fE.1 hi with rfl|hi
    ·exact absurd rfl e
    ·exact hi
   rw[ih h.2 this];simp[e]
def fills (f:Nat->Nat)(sy:aD)(u:sy.Nodup)(C:sy.Pairwise (fun i j=>f i<=f j)):∀k m,m<=(lF (sy.map (mk1 f)) k).length->(∀i,eY ((lF (sy.map (mk1 f)) k).take m) i<=k)/\∀K,k<=K->2*gT (fun i=>2^K-2^(K-eY ((lF (sy.map (mk1 f)) k).take m) i)) sy=m*2^K:=by
 intro k;induction k with
 |zero=>
  intro m v;have H:m=0:=by simpa[lF]using v
  subst H;refine⟨fun i=>by simp[eY],fun K _=> ?_⟩;have e:gT (fun i=>2^K-2^(K-eY ((lF (sy.map (mk1 f)) 0).take 0) i)) sy=0:=by
   clear u C v;induction sy with
   |nil=>rfl
   |cons x l ih=>rw[gT];simp[eY,lF]at ih |-;exact ih
  rw[e];simp
 |succ k ih=>
  intro m v;rw[lF]at v|-
  rw[yJ]at v;obtain⟨a,b,Q,R,S,T,X⟩:=Yu m (sy.map (mk1 f)) (pairUp (lF (sy.map (mk1 f)) k)) (List.pairwise_map.2 C) v;have F:a<=sy.length:=by simpa using R
  have ab:=mW (lF (sy.map (mk1 f)) k);obtain⟨D,J⟩:=ih (2*b) (by omega);have M:∀i,eY ((pairUp (lF (sy.map (mk1 f)) k)).take b) i=eY ((lF (sy.map (mk1 f)) k).take (2*b)) i:=fun i=>TN i _ b S;have Y:∀i,eY ((sy.map (mk1 f)).take a) i=(sy.take a).count i:=fun i=>by rw[<-List.map_take,Ew]
  have d:∀i,eY ((xP (sy.map (mk1 f)) (pairUp (lF (sy.map (mk1 f)) k))).take m) i=(sy.take a).count i+eY ((lF (sy.map (mk1 f)) k).take (2*b)) i:=fun i=>by rw[T i,Y i,M i]
  have A:(sy.take a).Nodup:=u.sublist (List.take_sublist a sy);have w:∀i,(sy.take a).count i<=1:=fun i=>List.nodup_iff_count.1 A i;have t:∀i∈sy.drop a,eY ((lF (sy.map (mk1 f)) k).take (2*b)) i=0/\(sy.take a).count i=0:=by
   intro i hi;refine⟨?_,?_⟩
   ·rcases DZ (eY ((lF (sy.map (mk1 f)) k).take (2*b)) i)with z|z
    ·exact z
    ·exfalso;rw[<-M i]at z;obtain⟨p,B,I⟩:=ai1 z;have aa:=KO f _ (am8 f sy k) p (zN B) i I;have:=X p B (mk1 f i) (by rw[<-List.map_drop];exact sU.2 ⟨i,hi,rfl⟩);have e:(mk1 f i).c=f i:=rfl;omega
   ·apply List.count_eq_zero.2;intro y;have r:=u;rw[<-pJ a sy,List.nodup_append]at r;exact r.2.2 i y i hi rfl
  refine⟨fun i=>by rw[d i];have:=w i;have:=D i;omega,fun K hK=> ?_⟩;obtain⟨K',rfl⟩:∃K',K=K'+1:=⟨K-1,by omega⟩
  have G:=J K' (by omega);have o:gT (fun i=>2^(K'+1)-2^(K'+1-eY ((xP (sy.map (mk1 f)) (pairUp (lF (sy.map (mk1 f)) k))).take m) i)) sy=a*2^K'+gT (fun i=>2^K'-2^(K'-eY ((lF (sy.map (mk1 f)) k).take (2*b)) i)) sy:=by
   have L:∀g:Nat->Nat,gT g sy=gT g (sy.take a)+gT g (sy.drop a):=fun g=>by rw[<-Cr,pJ]
   rw[L,L (fun i=>2^K'-2^(K'-eY ((lF (sy.map (mk1 f)) k).take (2*b)) i))];have N:gT (fun i=>2^(K'+1)-2^(K'+1-eY ((xP (sy.map (mk1 f)) (pairUp (lF (sy.map (mk1 f)) k))).take m) i)) (sy.take a)=gT (fun i=>2^K'+(2^K'-2^(K'-eY ((lF (sy.map (mk1 f)) k).take (2*b)) i))) (sy.take a):=by
    apply wF;intro i hi;rw[d i,count_one A hi];have Z:=D i;have hp:2^(K'-eY ((lF (sy.map (mk1 f)) k).take (2*b)) i)<=2^K':=gL (by omega) (by omega);rw[show K'+1-(1+eY ((lF (sy.map (mk1 f)) k).take (2*b)) i)=K'-eY ((lF (sy.map (mk1 f)) k).take (2*b)) i by omega,gW];omega
   have P:gT (fun i=>2^(K'+1)-2^(K'+1-eY ((xP (sy.map (mk1 f)) (pairUp (lF (sy.map (mk1 f)) k))).take m) i)) (sy.drop a)=gT (fun i=>2^K'-2^(K'-eY ((lF (sy.map (mk1 f)) k).take (2*b)) i)) (sy.drop a):=by
    apply wF;intro i hi;rw[d i,(t i hi).1,(t i hi).2];simp
   rw[N,P,Tk,dF,vV F];omega
  rw[o,Nat.mul_add,G,gW,<-Q,wO];have x1:2*(a*2^K')=a*(2^K'*2):=by rw[nH (2^K') 2,Nat.mul_left_comm]
  have x2:2*b*2^K'=b*(2^K'*2):=by rw[nH (2^K') 2,nH 2 b,vK]
  rw[x1,x2]
def Vs (f:Nat->Nat)(sy:aD)(a:sy.Nodup)(b:sy.Pairwise (fun i j=>f i<=f j))(r:2<=sy.length)(k:Nat)(m:2*sy.length-2<=(lF (sy.map (mk1 f)) k).length):(∀i,eY ((lF (sy.map (mk1 f)) k).take (2*sy.length-2)) i<=k)/\gT (fun i=>2^(k-eY ((lF (sy.map (mk1 f)) k).take (2*sy.length-2)) i)) sy=2^k:=by
 obtain⟨d,g⟩:=fills f sy a b k (2*sy.length-2) m;refine⟨d,?_⟩;have t:=g k (aS _);have key:∀l:aD,gT (fun i=>2^k-2^(k-eY ((lF (sy.map (mk1 f)) k).take (2*sy.length-2)) i)) l+gT (fun i=>2^(k-eY ((lF (sy.map (mk1 f)) k).take (2*sy.length-2)) i)) l=l.length*2^k:=by
  intro l;induction l with
  |nil=>simp[gT]
  |cons x l ih=>
   rw[gT,gT,iN,wO l.length 1 (2^k),wJ,<-ih];have hp:2^(k-eY ((lF (sy.map (mk1 f)) k).take (2*sy.length-2)) x)<=2^k:=gL (by omega) (by omega);omega
 have u:=key sy;have e:(2*sy.length-2)*2^k=2*(sy.length*2^k)-2*2^k:=by rw[Nat.sub_mul,vK]
 have o:2^k<=sy.length*2^k:=Nat.le_mul_of_pos_left _ (by omega);omega
def Dm (S:List Pa):∀k,(lF S (k+1)).length=S.length+(lF S k).length/2:=by intro k;rw[lF,yJ,mW]
def Xo (S:List Pa):∀k r,2*S.length<=r*2^k->2*S.length<=(lF S k).length+r:=by
 intro k;induction k with
 |zero=>intro r h;simp[lF]at h |-;exact h
 |succ k ih=>
  intro r h;have a:=ih (2*r) (by
   have e:2*r*2^k=r*2^(k+1):=(by rw[gW,nH 2 r,vK,nH 2 (2^k)]);rw[e];exact h)
  rw[Dm];omega
def rA (x:Pa):List Pa->List Pa
 |[]=>[x]
 |y::l=>if x.c<=y.c then x::y::l else y::rA x l
def pK:List Pa->List Pa
 |[]=>[]
 |x::l=>rA x (pK l)
def Qu (x:Pa):∀Q:List Pa,rA x Q=xP [x] Q
 |[]=>by rw[xP];rfl
 |q::Q=>by
  rw[xP,rA]
  by_cases h:x.c<=q.c
  ·rw[aA h,aA h,xP]
  ·rw[aB h,aB h,Qu x Q]
def Db {q:Pa}{Q:List Pa}:∀{S:List Pa},(∀s∈S.head?,q.c<s.c)->xP S (q::Q)=q::xP S Q
 |[],_=>by rw[xP,xP]
 |s::S,h=>by
  have:=h s (by simp)
  rw[xP,aB (by omega)]
def a18 {x:Pa}{S:List Pa}(a:c<x.c)(b:∀s∈S.head?,c<s.c):∀s∈(rA x S).head?,c<s.c:=by
 intro s hs;cases S with
 |nil=>simp[rA]at hs;subst hs;exact a
 |cons y l=>
  rw[rA]at hs;split at hs
  ·simp at hs;subst hs;exact a
  ·simp at hs;subst hs;exact b y (by simp)
def Y5 (x:Pa):∀S Q:List Pa,rA x (xP S Q)=xP (rA x S) Q
 |[],Q=>by rw[xP,Qu];rfl
 |s::S,[]=>by
  rw[xP]
  have e:∀l:List Pa,xP l []=l:=fun l=>by cases l<;>simp[xP]
  rw[e]
 |s::S,q::Q=>by
  rw[xP]
  by_cases h:s.c<=q.c
  ·rw[aA h]
   by_cases a:x.c<=s.c
   ·rw[rA,aA a,rA,aA a,xP,aA (by omega),xP,aA h]
   ·rw[rA,aB a,rA,aB a,xP,aA h,Y5 x S (q::Q)]
  ·rw[aB h]
   by_cases a:x.c<=q.c
   ·rw[rA,aA a,rA,aA (by omega),xP,aA a,xP,aB h]
   ·rw[rA,aB a,Y5 x (s::S) Q,Db (a18 (by omega) (fun y b=>by simp at b;subst b;omega))]
termination_by S Q=>S.length+Q.length
def MR:∀S Q:List Pa,pK (S++Q)=xP (pK S) (pK Q)
 |[],Q=>by rw[iO,pK,xP]
 |x::S,Q=>by rw[jZ,pK,pK,MR S Q,Y5]
def sZ (l:List Pa):Prop:=l.Pairwise (fun x y=>x.c<=y.c)
def MQ:∀{l:List Pa},sZ l->pK l=l
 |[],_=>rfl
 |x::l,h=>by
  have a:=qV.1 h
  rw[pK,MQ a.2]
  cases l with
  |nil=>rfl
  |cons y l=>rw[rA,aA (a.1 y (by simp))]
def Ae (x:Pa):∀(l:List Pa) (p:Pa),p∈rA x l↔p=x\/p∈l
 |[],p=>by simp[rA]
 |y::l,p=>by
  rw[rA]
  split
  ·simp
  ·rw[fE,Ae x l p,fE]
   constructor
   ·rintro(h|h|h)<;>simp[h]
   ·rintro(h|h|h)<;>simp[h]
def T9 (x:Pa):∀{l:List Pa},sZ l->sZ (rA x l)
 |[],_=>by simp[rA,sZ]
 |y::l,h=>by
  have b:=qV.1 h
  rw[rA]
  by_cases d:x.c<=y.c
  ·rw[aA d]
   refine qV.2 ⟨fun z a=> ?_,h⟩
   rcases fE.1 a with rfl|a
   ·exact d
   ·have:=b.1 z a
    omega
  ·rw[aB d]
   refine qV.2 ⟨fun z a=> ?_,T9 x b.2⟩
   rcases(Ae x l z).1 a with rfl|a
   ·omega
   ·exact b.1 z a
def vG:∀l:List Pa,sZ (pK l)
 |[]=>OD
 |x::l=>T9 x (vG l)
def XW:∀{l:List Pa} {c:Nat},(∀p∈l,c<=p.c)->∀p∈pairUp l,2*c<=p.c
 |[],_,_,p,hp=>by simp[pairUp]at hp
 |[_],_,_,p,hp=>by simp[pairUp]at hp
 |x::y::r,c,h,p,hp=>by
  rw[pairUp]at hp
  rcases fE.1 hp with rfl|hp
  ·have:=h x (by simp)
   have:=h y (by simp)
   show 2*c<=x.c+y.c
   omega
  ·exact XW (fun q a=>h q (by simp[a])) p hp
def EG:∀{l:List Pa},sZ l->sZ (pairUp l)
 |[],_=>by simp[pairUp,sZ]
 |[_],_=>by simp[pairUp,sZ]
 |x::y::r,h=>by
  have a:=qV.1 h
  have b:=qV.1 a.2
  rw[pairUp]
  refine qV.2 ⟨fun z d=> ?_,EG b.2⟩
  have:=XW (c:=y.c) (fun p hp=>b.1 p hp) z d
  have:=a.1 y (by simp)
  show x.c+y.c<=z.c
  omega
def qP (S:List Pa):Nat->List Pa
 |0=>[]
 |k+1=>pK (S++pairUp (qP S k))
def ak5 (S:List Pa):∀k,qP S k=lF (pK S) k/\sZ (qP S k):=by
 intro k;induction k with
 |zero=>exact⟨rfl,OD⟩
 |succ k ih=>
  have hs:=EG ih.2;have e:qP S (k+1)=lF (pK S) (k+1):=by rw[qP,lF,MR,MQ hs,ih.1]
  refine⟨e,?_⟩;rw[qP];exact vG _
def NK (f:Nat->Nat)(x:Nat):aD->aD
 |[]=>[x]
 |y::l=>if f x<=f y then x::y::l else y::NK f x l
def y5 (f:Nat->Nat):aD->aD
 |[]=>[]
 |x::l=>NK f x (y5 f l)
def Qn (f:Nat->Nat)(x:Nat):∀l:aD,rA (mk1 f x) (l.map (mk1 f))=(NK f x l).map (mk1 f)
 |[]=>rfl
 |y::l=>by
  rw[uI,rA,NK]
  by_cases h:f x<=f y
  ·rw[aA h,aA (show(mk1 f x).c<=(mk1 f y).c from h)];rfl
  ·rw[aB h,aB (show¬(mk1 f x).c<=(mk1 f y).c from h),Qn f x l];rfl
def UQ (f:Nat->Nat):∀l:aD,pK (l.map (mk1 f))=(y5 f l).map (mk1 f)
 |[]=>rfl
 |x::l=>by rw[uI,pK,UQ f l,Qn,y5]
def Dq (f g:Nat->Nat)(x:Nat):∀l:aD,gT g (NK f x l)=g x+gT g l
 |[]=>rfl
 |y::l=>by
  rw[NK]
  split
  ·rfl
  ·rw[gT,Dq f g x l,gT];omega
def JY (f g:Nat->Nat):∀l:aD,gT g (y5 f l)=gT g l
 |[]=>rfl
 |x::l=>by rw[y5,Dq,JY f g l,gT]
def QD (f:Nat->Nat)(x:Nat):∀(l:aD) (p:Nat),p∈NK f x l↔p=x\/p∈l
 |[],p=>by simp[NK]
 |y::l,p=>by
  rw[NK]
  split
  ·simp
  ·rw[fE,QD f x l p,fE]
   constructor
   ·rintro(h|h|h)<;>simp[h]
   ·rintro(h|h|h)<;>simp[h]
def PL (f:Nat->Nat)(x:Nat):∀{l:aD},x∉l->l.Nodup->(NK f x l).Nodup
 |[],_,_=>by simp[NK]
 |y::l,hx,h=>by
  rw[NK]
  split
  ·exact IK.2 ⟨hx,h⟩
  ·have a:=IK.1 h
   refine IK.2 ⟨fun b=> ?_,PL f x (fun y=>hx (by simp[y])) a.2⟩
   rcases(QD f x l y).1 b with e|e
   ·exact hx (by simp[e])
   ·exact a.1 e
def X5 (f:Nat->Nat):∀(l:aD) (p:Nat),p∈y5 f l↔p∈l
 |[],_=>Iff.rfl
 |x::l,p=>by rw[y5,QD,X5 f l p,fE]
def MH (f:Nat->Nat):∀{l:aD},l.Nodup->(y5 f l).Nodup
 |[],_=>by simp[y5]
 |x::l,h=>by
  have a:=IK.1 h
  exact PL f x (fun y=>a.1 ((X5 f l x).1 y)) (MH f a.2)
def ZE (f:Nat->Nat)(l:aD):(y5 f l).length=l.length:=by
 have h:=JY f (fun _=>1) l;have e:∀l:aD,gT (fun _=>1) l=l.length:=by
  intro l;induction l with
  |nil=>rfl
  |cons x l ih=>rw[gT,ih,iN];omega
 rw[e,e]at h;exact h
def yA (f:Nat->Nat)(sy:aD)(g:sy.Nodup)(r:2<=sy.length)(k:Nat)(hk:sy.length<=2^k):2*sy.length-2<=(qP (sy.map (mk1 f)) k).length/\(∀i,eY ((qP (sy.map (mk1 f)) k).take (2*sy.length-2)) i<=k)/\gT (fun i=>2^(k-eY ((qP (sy.map (mk1 f)) k).take (2*sy.length-2)) i)) sy=2^k:=by
 have e:=(ak5 (sy.map (mk1 f)) k).1;rw[UQ]at e;have b:=ZE f sy;have l:(y5 f sy).Pairwise (fun i j=>f i<=f j):=by
  have o:=vG (sy.map (mk1 f));rw[UQ]at o;exact(List.pairwise_map (f:=mk1 f) (R:=fun x y:Pa=>x.c<=y.c)).1 o
 have a:=Xo ((y5 f sy).map (mk1 f)) k 2 (by rw[nG,b];omega);rw[nG,b]at a;obtain⟨m,d⟩:=Vs f (y5 f sy) (MH f g) l (by omega) k (by rw[b];omega);rw[b]at m d;rw[e];refine⟨by omega,m,?_⟩;rw[JY]at d;exact d
structure Pe where
 c:Nat
 s:aD
 g:Nat
 cap:Nat
instance:Inhabited Pe:=⟨⟨0,[],0,0⟩⟩
def Pe.v (p:Pe):aK:= .slice (some (U p.g 0)) p.s.length p.cap
def Pe.pa (p:Pe):Pa:=⟨p.c,p.s⟩
def Pe.enc (p:Pe):List aK:=[V (p.c:Nat),p.v]
def iE:List Pe->List Pe->List Pe
 |[],Q=>Q
 |s::S,[]=>s::S
 |s::S,q::Q=>if s.c<=q.c then s::iE S (q::Q)else q::iE (s::S) Q
termination_by S Q=>S.length+Q.length
def tN (x:Pe):List Pe->List Pe
 |[]=>[x]
 |y::l=>if x.c<=y.c then x::y::l else y::tN x l
def dU:List Pe->List Pe
 |[]=>[]
 |x::l=>tN x (dU l)
def mP (l:List Pe):Prop:=l.Pairwise (fun x y=>x.c<=y.c)
def Qh (x:Pe):∀l:List Pe,(tN x l).map Pe.pa=rA x.pa (l.map Pe.pa)
 |[]=>rfl
 |y::l=>by
  rw[uI,rA,tN]
  by_cases h:x.c<=y.c
  ·rw[aA h,aA (show x.pa.c<=y.pa.c from h)];rfl
  ·rw[aB h,aB (show¬x.pa.c<=y.pa.c from h),uI,Qh x l]
def Fw:∀l:List Pe,(dU l).map Pe.pa=pK (l.map Pe.pa)
 |[]=>rfl
 |x::l=>by rw[dU,Qh,Fw l,uI,pK]
def nX (l:List Pe):iE l []=l:=by cases l<;>simp[iE]
def kD (l:List Pe):iE [] l=l:=by rw[iE]
def qE:∀S Q:List Pe,(iE S Q).length=S.length+Q.length
 |[],Q=>by simp[iE]
 |s::S,[]=>by simp[iE]
 |s::S,q::Q=>by
  rw[iE]
  split
  ·rw[iN,qE S (q::Q)];simp;omega
  ·rw[iN,qE (s::S) Q];simp;omega
termination_by S Q=>S.length+Q.length
def Dk (x:Pe):∀Q:List Pe,tN x Q=iE [x] Q
 |[]=>by rw[iE];rfl
 |q::Q=>by
  rw[iE,tN]
  by_cases h:x.c<=q.c
  ·rw[aA h,aA h,iE]
  ·rw[aB h,aB h,Dk x Q]
def JL {q:Pe}{Q:List Pe}:∀{S:List Pe},(∀s∈S.head?,q.c<s.c)->iE S (q::Q)=q::iE S Q
 |[],_=>by rw[iE,iE]
 |s::S,h=>by
  have:=h s (by simp)
  rw[iE,aB (by omega)]
def Sl {x:Pe}{S:List Pe}(a:c<x.c)(b:∀s∈S.head?,c<s.c):∀s∈(tN x S).head?,c<s.c:=by
 intro s hs;cases S with
 |nil=>simp[tN]at hs;subst hs;exact a
 |cons y l=>
  rw[tN]at hs;split at hs
  ·simp at hs;subst hs;exact a
  ·simp at hs;subst hs;exact b y (by simp)
def SS (x:Pe):∀S Q:List Pe,tN x (iE S Q)=iE (tN x S) Q
 |[],Q=>by rw[iE,Dk];rfl
 |s::S,[]=>by rw[nX,nX]
 |s::S,q::Q=>by
  rw[iE]
  by_cases h:s.c<=q.c
  ·rw[aA h]
   by_cases a:x.c<=s.c
   ·rw[tN,aA a,tN,aA a,iE,aA (by omega),iE,aA h]
   ·rw[tN,aB a,tN,aB a,iE,aA h,SS x S (q::Q)]
  ·rw[aB h]
   by_cases a:x.c<=q.c
   ·rw[tN,aA a,tN,aA (by omega),iE,aA a,iE,aB h]
   ·rw[tN,aB a,SS x (s::S) Q,JL (Sl (by omega) (fun y b=>by simp at b;subst b;omega))]
termination_by S Q=>S.length+Q.length
def yI:∀S Q:List Pe,dU (S++Q)=iE (dU S) (dU Q)
 |[],Q=>by rw[iO,dU,iE]
 |x::S,Q=>by rw[jZ,dU,dU,yI S Q,SS]
def TQ (x:Pe):∀(l:List Pe) (p:Pe),p∈tN x l↔p=x\/p∈l
 |[],p=>by simp[tN]
 |y::l,p=>by
  rw[tN]
  split
  ·simp
  ·rw[fE,TQ x l p,fE]
   constructor
   ·rintro(h|h|h)<;>simp[h]
   ·rintro(h|h|h)<;>simp[h]
def XC:∀(l:List Pe) (p:Pe),p∈dU l↔p∈l
 |[],_=>Iff.rfl
 |x::l,p=>by rw[dU,TQ,XC l p,fE]
def MN (x:Pe):∀{l:List Pe},mP l->mP (tN x l)
 |[],_=>by simp[tN,mP]
 |y::l,h=>by
  have b:=qV.1 h
  rw[tN]
  by_cases d:x.c<=y.c
  ·rw[aA d]
   refine qV.2 ⟨fun z a=> ?_,h⟩
   rcases fE.1 a with rfl|a
   ·exact d
   ·have:=b.1 z a
    omega
  ·rw[aB d]
   refine qV.2 ⟨fun z a=> ?_,MN x b.2⟩
   rcases(TQ x l z).1 a with rfl|a
   ·omega
   ·exact b.1 z a
def uR:∀l:List Pe,mP (dU l)
 |[]=>OD
 |x::l=>MN x (uR l)
def M7 (x:Pe):∀l:List Pe,(tN x l).length=l.length+1
 |[]=>rfl
 |y::l=>by
  rw[tN]
  split
  ·rfl
  ·rw[iN,M7 x l,iN]
def eT:∀l:List Pe,(dU l).length=l.length
 |[]=>rfl
 |x::l=>by rw[dU,M7,eT l,iN]
def kY:∀(d e b a:List Pe),(∀x∈d,∀y∈a,x.c<=y.c)->(∀x∈e,∀y∈b,x.c<y.c)->iE (d++b) (e++a)=iE d e++iE b a
 |[],[],b,a,_,_=>by rw[kD];rfl
 |[],r::e,b,a,h1,h2=>by
  rw[iO,jZ,JL (fun s hs=>h2 r (by simp) s (List.mem_of_mem_head? hs)),kD,jZ]
  have:=kY [] e b a h1 (fun x f=>h2 x (by simp[f]))
  rw[iO,kD]at this
  rw[this]
 |l::d,[],b,a,h1,h2=>by
  have ih:=kY d [] b a (fun x f=>h1 x (by simp[f])) h2
  rw[nX,iO]at ih
  rw[nX,iO,jZ]
  cases a with
  |nil=>rw[nX,nX];rfl
  |cons r a=>
   rw[iE,aA (h1 l (by simp) r (by simp)),ih]
   rfl
 |l::d,r::e,b,a,h1,h2=>by
  rw[jZ,jZ,iE,iE]
  by_cases h:l.c<=r.c
  ·rw[aA h,aA h,jZ]
   have ih:=kY d (r::e) b a (fun x f=>h1 x (by simp[f])) h2
   rw[jZ]at ih
   rw[ih]
  ·rw[aB h,aB h,jZ]
   have ih:=kY (l::d) e b a h1 (fun x f=>h2 x (by simp[f]))
   rw[jZ]at ih
   rw[ih]
termination_by L1 R1=>L1.length+R1.length
def VB (x:Pe)(A B:List Pe)(f:∀y∈A,y.c<x.c)(g:∀y∈B,x.c<=y.c):iE [x] (A++B)=A++x::B:=by have d:=kY [] A [x] B (by simp) (fun y a z b=>by simp at b;subst b;exact f y a);rw[iO,kD]at d;have e:=kY [x] [] [] B (fun y a z b=>by simp at a;subst a;exact g z b) (by simp);rw[bG,iO,nX,kD]at e;rw[d,e];rfl
def BL (x:Pe)(A B:List Pe)(f:∀y∈A,y.c<=x.c)(g:∀y∈B,x.c<y.c):iE (A++B) [x]=A++x::B:=by have d:=kY A [] B [x] (fun y a z b=>by simp at b;subst b;exact f y a) (by simp);rw[iO,nX]at d;have e:=kY [] [x] B [] (by simp) (fun y a z b=>by simp at a;subst a;exact g z b);rw[bG,iO,kD,nX]at e;rw[d,e];rfl
def iI (l:List Pe)(i:Nat):Pe:=l[i]?.getD default
def pQ {A B:List Pe}(h:i<A.length):iI (A++B) i=iI A i:=by unfold iI;rw[jA h]
def gV {A B:List Pe}(h:A.length<=i):iI (A++B) i=iI B (i-A.length):=by unfold iI;rw[kZ h]
def G5 {l:List Pe}(h:i<l.length):iI l i∈l:=by unfold iI;rw[bV h];exact vE h
def oG {l:List Pe}{x:Pe}(h:x∈l):∃i,i<l.length/\iI l i=x:=by obtain⟨i,hi,e⟩:=List.mem_iff_getElem.1 h;exact⟨i,hi,by unfold iI;rw[bV hi];exact e⟩
def rU {l:List Pe}(h:mP l){j:Nat}(a:i<=j)(d:j<l.length):(iI l i).c<=(iI l j).c:=by
 rcases Nat.eq_or_lt_of_le a with rfl|b
 ·exact aS _
 ·unfold iI;rw[bV d,bV (by omega)];exact List.pairwise_iff_getElem.1 h i j (by omega) d b
def kI (l:List Pe)(i:Nat):(l.toArray)[i]! =iI l i:=by unfold iI;simp[List.getElem!_toArray,List.getElem!_eq_getElem?_getD]
def ab7 (A B C:List Pe)(x y:Pe)(i j:Nat)(hi:i=A.length)(d:j=A.length+1+B.length):Sort.swp (A++x::B++y::C).toArray i j=(A++y::B++x::C).toArray:=by
 have a:iI (A++x::B++y::C) i=x:=by
  rw[pQ (by simp;omega),gV (by omega)];simp[iI,hi]
 have b:iI (A++x::B++y::C) j=y:=by
  rw[gV (by simp;omega)];have:j-(A++x::B).length=0:=by simp;omega
  rw[this];rfl
 unfold Sort.swp;rw[kI,kI,a,b,LM,LM];congr 1;subst hi d;have e:(A++x::B++y::C).set A.length y=A++y::B++y::C:=by
  rw[dB,JB _ _ (by omega)];simp
 rw[e,JB _ _ (by simp;omega)];congr 1;have:A.length+1+B.length-(A++y::B).length=0:=by simp;omega
 rw[this];rfl
def XV (A B C:List Pe)(x y:Pe)(i j:Nat)(hi:i=A.length)(d:j=A.length+1+B.length):Sort.swp (A++x::B++y::C).toArray j i=(A++y::B++x::C).toArray:=by
 have a:iI (A++x::B++y::C) i=x:=by
  rw[pQ (by simp;omega),gV (by omega)];simp[iI,hi]
 have b:iI (A++x::B++y::C) j=y:=by
  rw[gV (by simp;omega)];have:j-(A++x::B).length=0:=by simp;omega
  rw[this];rfl
 unfold Sort.swp;rw[kI,kI,a,b,LM,LM];congr 1;subst hi d;have e:(A++x::B++y::C).set (A.length+1+B.length) x=A++x::B++x::C:=by
  rw[JB _ _ (by simp;omega)];congr 1;have:A.length+1+B.length-(A++x::B).length=0:=by simp;omega
  rw[this];rfl
 rw[e,dB,JB _ _ (by omega)];simp
def VN:∀(n:Nat) (P A B:List Pe) (x:Pe),A.length=n->mP A->Sort.insInner (fun p q:Pe=>decide (p.c<q.c)) P.length (P.length+A.length) (P++A++x::B).toArray=(P++iE A [x]++B).toArray:=by
 intro n;induction n with
 |zero=>
  intro P A B x hn g
  have:A=[]:=by cases A with
   |nil=>rfl
   |cons _ _=>simp at hn
  subst this;rw[Go.Proofs.insInner_stop _ _ _ _ (.inl (by simp)),kD];simp
 |succ n ih=>
  intro P A B x hn g;obtain⟨d,y,rfl⟩:∃d y,A=d++[y]:=by
   rcases List.eq_nil_or_concat A with rfl|⟨d,y,rfl⟩
   ·simp at hn
   ·exact⟨d,y,by simp⟩
  have j:mP d:=(zD.1 g).1;have u:∀z∈d,z.c<=y.c:=fun z e=>(zD.1 g).2.2 z e y (by simp);have v:(d++[y]).length=d.length+1:=by simp
  have k:P++(d++[y])++x::B=(P++d)++y::[]++x::B:=by simp
  have l:iI (P++(d++[y])++x::B) (P.length+(d++[y]).length)=x:=by
   rw[gV (by simp)];simp[iI]
  have m:iI (P++(d++[y])++x::B) (P.length+(d++[y]).length-1)=y:=by
   rw[k,pQ (by simp),gV (by simp)];have:P.length+(d++[y]).length-1-(P++d).length=0:=(by simp);rw[this];rfl
  by_cases h:x.c<y.c
  ·rw[Go.Proofs.insInner_go _ _ _ _ (by simp) (by rw[kI,kI,l,m];exact eU h),k,
    XV (P++d) [] B y x (P.length+(d++[y]).length-1) (P.length+(d++[y]).length) (by simp) (by simp;omega)]
   have t:(P++d)++x::[]++y::B=P++d++x::(y::B):=(by simp);rw[t,show P.length+(d++[y]).length-1=P.length+d.length by simp,ih P d (y::B) x (by simp at hn;omega) j];have f:=kY d [x] [y] [] (by simp) (fun a o b r=>by simp at o r;subst o;subst r;exact h);rw[bG,nX]at f;rw[f];simp
  ·rw[Go.Proofs.insInner_stop _ _ _ _ (.inr (by rw[kI,kI,l,m];exact fT h))];have f:=BL x (d++[y]) [] (fun z e=>by
    rcases iF.1 e with e|e
    ·have:=u z e;omega
    ·simp at e;subst e;omega) (by simp)
   rw[bG]at f;rw[f];simp
def VU (S:List Pe)(P:List Pe):∀(n:Nat) (X Y:List Pe),Y.length=n->X≠[]->Sort.insOuter (fun p q:Pe=>decide (p.c<q.c)) P.length (P.length+X.length+Y.length) (P.length+X.length) (P++dU X++Y++S).toArray=(P++dU (X++Y)++S).toArray:=by
 intro n;induction n with
 |zero=>
  intro X Y hn f
  have:Y=[]:=by cases Y with
   |nil=>rfl
   |cons _ _=>simp at hn
  subst this;rw[Go.Proofs.insOuter_stop _ _ _ _ _ (by simp)];simp
 |succ n ih=>
  intro X Y hn f;cases Y with
  |nil=>simp at hn
  |cons y Y=>
   rw[Go.Proofs.insOuter_go _ _ _ _ _ (by simp)];have h:=VN (dU X).length P (dU X) (Y++S) y rfl (uR X);rw[eT]at h;have e:P++dU X++(y::Y)++S=P++dU X++y::(Y++S):=(by simp);rw[e,h];have a:iE (dU X) [y]=dU (X++[y]):=(by rw[yI];rfl);rw[a];have:=ih (X++[y]) Y (by simpa using hn) (by simp);have e3:P.length+X.length+(y::Y).length=P.length+(X++[y]).length+Y.length:=(by simp;omega);have b:P.length+X.length+1=P.length+(X++[y]).length:=(by simp;omega);have d:P++dU (X++[y])++(Y++S)=P++dU (X++[y])++Y++S:=(by simp);rw[e3,b,d,this];simp
def YX (P X S:List Pe):Sort.insertionSort (fun p q:Pe=>decide (p.c<q.c)) (P++X++S).toArray P.length (P.length+X.length)=(P++dU X++S).toArray:=by
 unfold Sort.insertionSort;cases X with
 |nil=>rw[Go.Proofs.insOuter_stop _ _ _ _ _ (by simp)];simp[dU]
 |cons x X=>
  have h:=VU S P X.length [x] X rfl (by simp);have e:dU [x]=[x]:=rfl;rw[e]at h;have a:P++[x]++X++S=P++x::X++S:=by simp
  have e3:P.length+[x].length+X.length=P.length+(x::X).length:=by simp;omega
  rw[a,e3]at h;exact h
end Go.dM
namespace Go.Proofs
open Go.Shelf Go.RowKit Go.Lib Go.Sort
shelf_lay_g SlLaysF0.n20 Slsf 20 at Tryz 221 as Tryz.insLaid
end Go.Proofs
namespace Go.Proofs.YtbpahojchgpdnaaGreatDoor
open Go.RowKit Go.Shelf Go.Lib Go.Sort Go.dM Go.Proofs.Tryz
variable {blk c hi i lo n off p q s:Nat} {W w0:aH}
def cfE (x y:Pe):Int:=Lib.compareInt (x.c:Int) (y.c:Int)
def ltE:ltOf cfE=fun p q:Pe=>decide (p.c<q.c):=by
 funext x y;unfold ltOf cfE Lib.compareInt;by_cases a:x.c<y.c
 ·simp[a]
 ·by_cases b:y.c<x.c<;>simp[a,b]
def Cc (x:Int)(w:aH):Calls prog 138 #[V x] w fun e w'=>e= .returned (.bool false)/\w'=w:=by
 go_enter func138,ntmps138;go_wp2_with fail;first|go_ret|skip
 all_goals simp
def SL (x y:Int)(w:aH):Calls prog 108 #[V x,V y] w fun e w'=>e= .returned (V (Lib.compareInt x y))/\w'=w:=by
 have d:=Cc x;have f:=Cc y;unfold Lib.compareInt;go_enter func108,ntmps108;by_cases b:x<y
 ·rw[aA b];go_wp2_with (go_at_call 138;first|(apply(d _).mono;rintro e w' ⟨rfl,rfl⟩)|(apply(f _).mono;rintro e w' ⟨rfl,rfl⟩));first|go_ret|skip
  all_goals exact⟨rfl,rfl⟩
 ·rw[aB b];by_cases a:x>y;focus
   rw[aA a]
  rotate_left;focus
   rw[aB a]
  all_goals
   go_wp2_with (go_at_call 138;first|(apply(d _).mono;rintro e w' ⟨rfl,rfl⟩)|(apply(f _).mono;rintro e w' ⟨rfl,rfl⟩));first|go_ret|skip
   all_goals exact⟨rfl,rfl⟩
def SB (x y:Pe)(W:aH):Calls prog 208 #[.agg #[V x.c,x.v], .agg #[V y.c,y.v]] W fun e w'=>e= .returned (V (cfE x y))/\∃q f,w'=grow (W.drewN q) f:=by
 have d:=SL (x.c:Int) (y.c:Int);unfold cfE;generalize Lib.compareInt (x.c:Int) (y.c:Int)=r at d|-
 obtain⟨a,g⟩:∃a:Int,a=(x.c:Int):=⟨_,rfl⟩
 obtain⟨b,j⟩:∃b:Int,b=(y.c:Int):=⟨_,rfl⟩
 rw[<-g,<-j]at d|-
 clear g j;go_enter func208,ntmps208;go_wp2_with (go_at_call 108;apply(d _).mono;rintro e w' ⟨rfl,rfl⟩);go_ret;exact⟨rfl,0,_,by rw[alloc_eq_grow,alloc_eq_grow,grow_grow];rfl⟩
def Cm (x:Pe):x.enc.length=2:=rfl
def Aw (x:Pe):∀v∈x.enc,v.oneCell'=true:=fun v a=>by
 simp[Pe.enc,Pe.v]at a
 rcases a with rfl|rfl<;>rfl
def aC9 {a:Array Pe}(h:HoldsK Pe.enc 2 w0 blk off a)(b:blk<w0.heap.size):RowK Pe.enc 2 w0 blk off a:=⟨Cm,Aw,h,b⟩
def aD6 (blk off size:Nat)(w:aH):CmpLays prog 208 #[] Pe.enc 2 cfE blk off size w:=fun _ _ _ _ x y=>SB x y _
def mX (w0:aH)(blk off:Nat)(l:List Pe)(W:aH):Prop:=SWK Pe.enc 2 w0 blk off l.toArray W
def mX.cells {l e:List Pe}(S:mX w0 blk off l W)(R:RowK Pe.enc 2 w0 blk off e.toArray)(hs:l.length=e.length)(hi:i<l.length):W.cell? ⟨blk,off+i*2,none⟩=some (V ((iI l i).c:Nat))/\W.cell? ⟨blk,off+i*2+1,none⟩=some (iI l i).v/\W.frozen? ⟨blk,off+i*2,none⟩=false/\W.frozen? ⟨blk,off+i*2+1,none⟩=false:=by
 have h:HoldsK Pe.enc 2 W blk off l.toArray:=SWK.holds S R.hblk R.hH (by simpa using hs);have a:i<l.toArray.size:=by simpa using hi
 have b:=h.cell a (show 0<2 by omega);have d:=h.cell a (show 1<2 by omega);rw[kI]at b d;exact⟨b.1,d.1,b.2,d.2⟩
def mX.swap {e A B C:List Pe}{x y:Pe}(S:mX w0 blk off (A++x::B++y::C) W)(R:RowK Pe.enc 2 w0 blk off e.toArray)(hp:p=A.length)(d:q=A.length+1+B.length):mX w0 blk off (A++y::B++x::C) ((((W.drew.setCell ⟨blk,off+p*2,none⟩ (V y.c)).setCell ⟨blk,off+p*2+1,none⟩ y.v).setCell ⟨blk,off+q*2,none⟩ (V x.c)).setCell ⟨blk,off+q*2+1,none⟩ x.v):=by
 have a:iI (A++x::B++y::C) p=x:=by
  rw[pQ (by simp;omega),gV (by omega)];simp[iI,hp]
 have b:iI (A++x::B++y::C) q=y:=by
  rw[gV (by simp;omega)];have:q-(A++x::B).length=0:=by simp;omega
  rw[this];rfl
 have h:=SWK.swapped S R p q (by simp;omega) (by simp;omega);rw[ab7 A B C x y p q hp d,kI,kI,a,b]at h;exact h
def mX.swap' {e A B C:List Pe}{x y:Pe}(S:mX w0 blk off (A++x::B++y::C) W)(R:RowK Pe.enc 2 w0 blk off e.toArray)(hp:p=A.length)(d:q=A.length+1+B.length):mX w0 blk off (A++y::B++x::C) ((((W.drew.setCell ⟨blk,off+q*2,none⟩ (V x.c)).setCell ⟨blk,off+q*2+1,none⟩ x.v).setCell ⟨blk,off+p*2,none⟩ (V y.c)).setCell ⟨blk,off+p*2+1,none⟩ y.v):=by
 have a:iI (A++x::B++y::C) p=x:=by
  rw[pQ (by simp;omega),gV (by omega)];simp[iI,hp]
 have b:iI (A++x::B++y::C) q=y:=by
  rw[gV (by simp;omega)];have:q-(A++x::B).length=0:=by simp;omega
  rw[this];rfl
 have h:=SWK.swapped S R q p (by simp;omega) (by simp;omega);rw[XV A B C x y p q hp d,kI,kI,a,b]at h;exact h
def Nq {A B C:List Pe}{x y:Pe}(hp:p=A.length):iI (A++x::B++y::C) p=x:=by rw[pQ (by simp;omega),gV (by omega)];simp[iI,hp]
def Ld {A B C:List Pe}{x y:Pe}(a:q=A.length+1+B.length):iI (A++x::B++y::C) q=y:=by
 rw[gV (by simp;omega)];have:q-(A++x::B).length=0:=by simp;omega
 rw[this];rfl
set_option maxRecDepth 1000000 in
def yO (blk off cap a b n:Nat)(A B C X Y f:List Pe)(w0 w:aH)(fv:aK)(R:RowK Pe.enc 2 w0 blk off f.toArray)(hs:f.length=(A++X++B++Y++C).length)(S:mX w0 blk off (A++X++B++Y++C) w)(ha:a=A.length)(hn:X.length=n)(I:Y.length=n)(hb:b=A.length+X.length+B.length)(ak:f.length<4611686018427387904):Calls prog 226 #[.slice (some (U blk off)) f.length cap,V a,V b,V n,fv] w fun e w'=>e= .returned (.tuple #[])/\mX w0 blk off (A++Y++B++X++C) w':=by
 have aa:=ay9;have S0:Hid (mX w0 blk off (A++X++B++Y++C) w):=S;have HS:Hid (f.length=(A++X++B++Y++C).length):=hs;have HA:Hid (a=A.length/\X.length=n/\Y.length=n/\b=A.length+X.length+B.length):=⟨ha,hn,I,hb⟩
 have ag:b+n<=f.length:=by rw[hs];simp;omega
 have af:a+n<=b:=by omega
 clear S hs ha hn I hb;go_enter func226,ntmps226;go_wp2_with fail;go_loopg [10] n (fun kx s10 wr=>∃i:Nat,s10=V i/\i<=n/\kx=n-i/\Hid (mX w0 blk off (A++(Y.take i++X.drop i)++B++(X.take i++Y.drop i)++C) wr));case atStart=>exact⟨0,rfl,by omega,rfl,by simpa using S0⟩
 case round=>
  clear S0;obtain⟨i,rfl,ah,ai,L⟩:=hrel;by_cases aj:i<n
  ·have H:(i:Int)<(n:Int):=(by omega);obtain⟨p,hp⟩:=aP (a+i);obtain⟨q,hq⟩:=aP (b+i);have rp:IntKind.i64.wrap ((a:Int)+(i:Int))=(p:Int):=(by rw[dK];omega);have rq:IntKind.i64.wrap ((b:Int)+(i:Int))=(q:Int):=(by rw[dK];omega);have ep:((p:Int)).toNat=p:=(by omega);have eq:((q:Int)).toNat=q:=(by omega);have pp:(0:Int)<=(p:Int):=(by omega);have pq:(0:Int)<=(q:Int):=(by omega);have bp:(p:Int)<(f.length:Int):=(by omega);have bq:(q:Int)<(f.length:Int):=(by omega);obtain⟨⟨a1,a2,a3,a4⟩,a5⟩:=(⟨HA.o,HS.o⟩:_/\_)
   obtain⟨x,P⟩:∃x,X.drop i=x::X.drop (i+1):=⟨X[i],(O8 (h:=by omega)).symm⟩
   obtain⟨y,Q⟩:∃y,Y.drop i=y::Y.drop (i+1):=⟨Y[i],(O8 (h:=by omega)).symm⟩
   have J:X.take (i+1)=X.take i++[x]:=by
    have N:X[i]? =some x:=(by rw[<-lN i,<-kM,P];rfl);rw[jE,N];rfl
   have K:Y.take (i+1)=Y.take i++[y]:=by
    have N:Y[i]? =some y:=(by rw[<-lN i,<-kM,Q];rfl);rw[jE,N];rfl
   have el:A++(Y.take i++X.drop i)++B++(X.take i++Y.drop i)++C=(A++Y.take i)++x::(X.drop (i+1)++B++X.take i)++y::(Y.drop (i+1)++C):=(by rw[P,Q];simp);have en:A++(Y.take (i+1)++X.drop (i+1))++B++(X.take (i+1)++Y.drop (i+1))++C=(A++Y.take i)++y::(X.drop (i+1)++B++X.take i)++x::(Y.drop (i+1)++C):=(by rw[J,K];simp);have T:p=(A++Y.take i).length:=(by simp;omega);have Z:q=(A++Y.take i).length+1+(X.drop (i+1)++B++X.take i).length:=(by simp;omega);have d:=L.o;rw[el]at d;have j:((A++Y.take i)++x::(X.drop (i+1)++B++X.take i)++y::(Y.drop (i+1)++C)).length=f.length:=(by rw[a5];simp;omega);have S2:=hide (d.swap R T Z);obtain⟨u,D,ab,ac⟩:=d.cells R j (i:=p) (by omega);obtain⟨F,G,ad,ae⟩:=d.cells R j (i:=q) (by omega);rw[Nq T]at u D;rw[Ld Z]at F G;have m1:¬off+p*2=off+q*2:=(by omega);have m2:¬off+q*2=off+p*2:=(by omega);have m3:¬off+p*2+1=off+q*2+1:=(by omega);have m4:¬off+q*2+1=off+p*2+1:=(by omega);have m5:¬off+p*2+1=off+q*2:=(by omega);have m6:¬off+q*2+1=off+p*2:=(by omega);have m7:¬off+p*2=off+q*2+1:=(by omega);have m8:¬off+q*2=off+p*2+1:=(by omega);have EN:=hide en;have M:∀z:Pe,∃(g k n:Nat) (c:Int),z.v= .slice (some (U g 0)) n k/\(z.c:Int)=c:=fun z=>⟨z.g,z.cap,z.s.length,_,rfl,rfl⟩
   obtain⟨xg,xk,xn,xc,m,l⟩:=M x;obtain⟨yg,yk,yn,yc,t,r⟩:=M y;rw[m,t,l,r]at S2;rw[m]at D;rw[t]at G;rw[l]at u;rw[r]at F;clear M;clear hp hq m t l r;clear L d j el en T Z P Q J K a1 a2 a3 a4 a5;go_wp2_with fail;go_big_region_o;go_wp2_with fail;go_roundg (n-(i+1));case measure=>omega
   case rel=>exact⟨i+1,by first|rfl|simp|go_num,by omega,by omega,by rw[EN.o];exact S2⟩
  ·have H:¬(i:Int)<(n:Int):=(by omega);go_wp2_with fail;go_end0;refine⟨rfl,?_⟩;have hi:i=n:=(by omega);obtain⟨a1,a2,a3,a4⟩:=HA.o;have h:=L.o;rw[hi,kW (by omega),kW (by omega),J8 (by omega),J8 (by omega)]at h;simpa using h
structure Qr (w0:aH)(blk off m:Nat)(T:List Pe)(n i j:Nat)(W:aH):Prop where
 ex:∃P U V S:List Pe,mX w0 blk off (P++U++V++S) W/\U.length=i/\V.length=j/\m=P.length+i/\(P++U++V++S).length=n/\P++V++U++S=T
def Cz (l:List Pe)(k:Nat)(h:k<=l.length):∃A B,l=A++B/\A.length=k/\B.length=l.length-k:=⟨l.take k,l.drop k,(pJ k l).symm,by rw[dF];omega,dX⟩
set_option maxRecDepth 1000000 in
def Wp (blk off cap a m b:Nat)(P d f S g:List Pe)(w0 w:aH)(N:aK)(R:RowK Pe.enc 2 w0 blk off g.toArray)(hs:g.length=(P++d++f++S).length)(H:mX w0 blk off (P++d++f++S) w)(ha:a=P.length)(hm:m=P.length+d.length)(hb:b=P.length+d.length+f.length)(hU:0<d.length)(hV:0<f.length)(z:g.length<4611686018427387904):Calls prog 225 #[.slice (some (U blk off)) g.length cap,V a,V m,V b,N] w fun e w'=>e= .returned (.tuple #[])/\mX w0 blk off (P++f++d++S) w':=by
 have Q:Hid (Qr w0 blk off m (P++f++d++S) g.length (m-a) (b-m) w):=⟨P,d,f,S,H,by omega,by omega,by omega,hs.symm,rfl⟩
 have R':=hide R;have b1:b<=g.length:=by rw[hs];simp;omega
 have b2:a<m:=by omega
 have b3:m<b:=by omega
 obtain⟨T,r⟩:=aP (P++f++d++S);rw[<-r]at Q|-
 clear r H hs ha hm hb hU hV R;go_enter func225,ntmps225;go_wp2_with fail;go_loopg [10,11] (b-a) (fun kx s10 s11 wr=>∃i j:Nat,s10=V i/\s11=V j/\0<i/\0<j/\i<=m/\m+j<=g.length/\kx=i+j/\Hid (Qr w0 blk off m T g.length i j wr));case atStart=>exact⟨m-a,b-m,by congr 1;omega,by congr 1;omega,by omega,by omega,by omega,by omega,by omega,Q⟩
 case round=>
  clear Q;obtain⟨i,j,rfl,rfl,hi,hj,ag,ah,aa,M⟩:=hrel;obtain⟨u,B,C,S',x,k,t,y,hn,r⟩:=M.o.ex;by_cases ab:i=j
  ·have I:(i:Int)=(j:Int):=(by omega);have l:=yO blk off cap (m-i) m i u [] S' B C g w0 wr N R'.o (by rw[<-hn];simp) (by simpa using x) (by omega) k (by omega) (by simp;omega) z;have v:((m-i:Nat):Int)=(m:Int)-(i:Int):=(by omega);rw[v]at l;have F:u++C++[]++B++S'=T:=(by rw[<-r];simp);rw[F]at l;have X:=hide l;clear l x k t y hn r F v M aa;subst ab;go_wp2_with (go_at_call 226;apply X.o.mono;rintro e w' ⟨rfl,D⟩);go_end0;exact⟨rfl,D⟩
  ·have I:¬(i:Int)=(j:Int):=(by omega);by_cases af:i>j
   ·have G:(i:Int)>(j:Int):=(by omega);obtain⟨Z,U2,K,A,ac⟩:=Cz B j (by omega);have l:=yO blk off cap (m-i) m j u U2 S' Z C g w0 wr N R'.o (by rw[<-hn,K];simp) (by rw[K]at x;simpa using x) (by omega) A t (by omega) z;have v:((m-i:Nat):Int)=(m:Int)-(i:Int):=(by omega);rw[v]at l;have J:∀W,mX w0 blk off (u++C++U2++Z++S') W->Qr w0 blk off m T g.length (i-j) j W:=fun W hW=>
     ⟨u++C,U2,Z,S',hW,by omega,A,by simp;omega,by rw[<-hn,K];simp;omega,by rw[<-r,K];simp⟩
    have X:=hide l;have Y:=hide J;clear l J x k t y hn r v M K A ac;go_wp2_with (go_at_call 226;apply X.o.mono;rintro e w' ⟨rfl,D⟩);go_roundg (i-j+j);case measure=>omega
    case rel=>exact⟨i-j,j,by first|rfl|(congr 1;omega)|go_num,rfl,by omega,by omega,by omega,by omega,rfl,Y.o _ D⟩
   ·have G:¬(i:Int)>(j:Int):=(by omega);obtain⟨V1,V2,L,ad,ae⟩:=Cz C (j-i) (by omega);have l:=yO blk off cap (m-i) (m+j-i) i u V1 S' B V2 g w0 wr N R'.o (by rw[<-hn,L];simp) (by rw[L]at x;simpa using x) (by omega) k (by omega) (by omega) z;have v:((m-i:Nat):Int)=(m:Int)-(i:Int):=(by omega);have e2:((m+j-i:Nat):Int)=(m:Int)+(j:Int)-(i:Int):=(by omega);rw[v,e2]at l;have J:∀W,mX w0 blk off (u++V2++V1++B++S') W->Qr w0 blk off m T g.length i (j-i) W:=fun W hW=>
     ⟨u,V2,V1,B++S',by simpa using hW,by omega,by omega,by omega,by rw[<-hn,L];simp;omega,by rw[<-r,L];simp⟩
    have Y:=hide J;clear J x k t y hn r v e2 M L ad ae;go_wp2_with (go_at_call 226;apply l.mono;rintro e w' ⟨rfl,D⟩);go_roundg (i+(j-i));case measure=>omega
    case rel=>exact⟨i,j-i,rfl,by first|rfl|(congr 1;omega)|go_num,by omega,by omega,by omega,by omega,rfl,Y.o _ D⟩
def Tx:aK:= .func (.func 208) #[] #[]
def mX.grown {l:List Pe}(S:mX w0 blk off l W)(n:Nat)(os:Array Obj):mX w0 blk off l (grow (W.drewN n) os):=SWK.grown S n os
structure ax8 (W:aH)(blk p q:Nat)(xg xk xn yg yk yn:Nat)(xc yc:Int):Prop where
 c1:∀n os,(grow (W.drewN n) os).cell? (U blk p)=some (V xc)
 c2:∀n os,(grow (W.drewN n) os).cell? ⟨blk,p+1,none⟩=some (.slice (some (U xg 0)) xn xk)
 c3:∀n os,(grow (W.drewN n) os).cell? (U blk q)=some (V yc)
 c4:∀n os,(grow (W.drewN n) os).cell? ⟨blk,q+1,none⟩=some (.slice (some (U yg 0)) yn yk)
 cl:∀n os,Calls prog 208 #[.agg #[V xc, .slice (some (U xg 0)) xn xk], .agg #[V yc, .slice (some (U yg 0)) yn yk]] (grow (W.drewN n) os) fun e w'=>e= .returned (V (Lib.compareInt xc yc))/\∃q os',w'=grow ((grow (W.drewN n) os).drewN q) os'
def mX.test {l b:List Pe}(S:mX w0 blk off l W)(R:RowK Pe.enc 2 w0 blk off b.toArray)(hs:l.length=b.length){j:Nat}(hi:i<l.length)(a:j<l.length):∃d e f k m o,ax8 W blk (off+i*2) (off+j*2) d e f k m o ((iI l i).c:Int) ((iI l j).c:Int):=by refine⟨(iI l i).g,(iI l i).cap,(iI l i).s.length,(iI l j).g,(iI l j).cap,(iI l j).s.length,fun n os=>((S.grown n os).cells R hs hi).1,fun n os=>((S.grown n os).cells R hs hi).2.1,fun n os=>((S.grown n os).cells R hs a).1,fun n os=>((S.grown n os).cells R hs a).2.1,fun n os=> ?_⟩;exact SB (iI l i) (iI l j) _
def OL (x y:Int):(Lib.compareInt x y<0)↔x<y:=by
 unfold Lib.compareInt;by_cases a:x<y
 ·simp[a]
 ·by_cases b:y<x<;>simp[a,b]
structure au9 (l:List Pe)(m b i j x:Nat):Prop where
 mi:m<=i
 ij:i<=j
 jb:j<=b
 lo:∀t,m<=t->t<i->(iI l t).c<x
 hi:∀t,j<=t->t<b->x<=(iI l t).c
set_option maxRecDepth 1000000 in
def V9 (blk off cap a m b:Nat)(P R' S D:List Pe)(x:Pe)(w0 w:aH)(R:RowK Pe.enc 2 w0 blk off D.toArray)(hs:D.length=(P++[x]++R'++S).length)(H:mX w0 blk off (P++[x]++R'++S) w)(ha:a=P.length)(hm:m=P.length+1)(hb:b=P.length+1+R'.length)(al:mP R')(bm:D.length<4611686018427387904):Calls prog 222 #[.slice (some (U blk off)) D.length cap,V a,V m,V b,Tx] w fun e w'=>e= .returned (.tuple #[])/\mX w0 blk off (P++iE [x] R'++S) w':=by
 have aq:=ay9;have H0:=hide H;have HR:=hide R;have b1:b<=D.length:=by rw[hs];simp;omega
 have b2:m<=a+1:=by omega
 have b4:a+1<=m:=by omega
 have b3:m<=b:=by omega
 have ex:iI (P++[x]++R'++S) a=x:=by rw[dB,dB,gV (by omega),ha];simp[iI]
 have er:∀t,m<=t->t<b->iI (P++[x]++R'++S) t=iI R' (t-m):=fun t J h2=>by
  rw[pQ (by simp;omega),gV (by simp;omega)];congr 1;simp;omega
 have am:∀s t,m<=s->s<=t->t<b->(iI (P++[x]++R'++S) s).c<=(iI (P++[x]++R'++S) t).c:=fun s t J h2 h3=>by
  rw[er s J (by omega),er t (by omega) h3];exact rU al (by omega) (by omega)
 have HX:=hide (aQ ex (aQ er (aQ am (aQ hs (aQ ha (aQ hm hb))))));have z1:IntKind.i64.wrap ((m:Int)-(a:Int))=1:=by rw[dK];omega
 clear H R hs ha hm hb ex er am al;unfold Tx;go_enter func222,ntmps222;go_wp2_with fail;obtain⟨l,B⟩:=aP (P++[x]++R'++S);rw[<-B]at H0;have G:l.length=D.length:=by rw[B];exact HX.o.2.2.2.1.symm
 have f:iI l a=x:=by rw[B];exact HX.o.1
 have d:∀s t,m<=s->s<=t->t<b->(iI l s).c<=(iI l t).c:=by rw[B];exact HX.o.2.2.1
 have ab:=hide d;have HL:=hide (aQ B (aQ G f));clear B G f d;go_loopg [10,11] (b-m) (fun kx s10 s11 wr=>∃i j:Nat,s10=V i/\s11=V j/\i<=j/\j<=b/\kx=j-i/\Hid (au9 l m b i j x.c)/\Hid (mX w0 blk off l wr));case atStart=>exact⟨m,b,rfl,rfl,by omega,by omega,rfl,⟨by omega,by omega,by omega,fun t J h2=>by omega,fun t J h2=>by omega⟩,H0⟩
 case round=>
  clear H0;obtain⟨i,j,rfl,rfl,bc,bh,bk,H1,S1⟩:=hrel;by_cases bl:i<j
  ·have ai:(i:Int)<(j:Int):=(by omega);obtain⟨h,hh⟩:=aP ((i+j)/2);have bf:i<=h:=(by omega);have bg:h<j:=(by omega);have HH:=hide hh;obtain⟨B,G,f⟩:=HL.o;obtain⟨xg,xk,xn,yg,yk,yn,T⟩:=S1.o.test HR.o G (i:=h) (j:=a) (by omega) (by omega);rw[f]at T;obtain⟨c1,c2,c3,c4,cl⟩:=T;have e0:((h:Int)).toNat=h:=(by omega);have e1:((a:Int)).toNat=a:=(by omega);have p0:(0:Int)<=(h:Int):=(by omega);have p1:(0:Int)<=(a:Int):=(by omega);have q0:(h:Int)<(D.length:Int):=(by omega);have q1:(a:Int)<(D.length:Int):=(by omega);have hd:((i:Int)+(j:Int))/2=(h:Int):=(by omega);have hr:=OL ((iI l h).c:Int) (x.c:Int);obtain⟨r,Q⟩:=aP (Lib.compareInt ((iI l h).c:Int) (x.c:Int));rw[<-Q]at cl hr;have ac:=hide hr;have F:=H1.o;have d:=ab.o;obtain⟨hc,L⟩:∃hc:Int,hc=((iI l h).c:Int):=⟨_,rfl⟩
   obtain⟨xc,A⟩:∃xc:Int,xc=(x.c:Int):=⟨_,rfl⟩
   rw[<-L]at c1 cl;rw[<-A]at c3 cl;by_cases ak:r<0
   ·have n1:Hid (au9 l m b (h+1) j x.c):=⟨by have:=F.mi;omega,by omega,by omega,fun t J h2=>by
     have h3:=hr.1 ak;have h4:=d t h J (by omega) (by omega);omega,F.hi⟩
    clear hh B G f Q L A F d hr ac H1;go_wp2_with fail;go_quiet_grown (refine Calls.grown_of (cl _ _));go_wp2_with fail;go_roundg (j-(h+1));case measure=>omega
    case rel=>exact⟨h+1,j,by first|rfl|simp|go_num,rfl,by omega,by omega,by omega,n1,S1.o.grown _ _⟩
   ·have n1:Hid (au9 l m b i h x.c):=⟨F.mi,by omega,by omega,F.lo,fun t J h2=>by
     have h3:¬((iI l h).c:Int)<(x.c:Int):=fun y=>ak (hr.2 y);have h4:=d h t (by have:=F.mi;omega) (by omega) h2;omega⟩
    clear hh B G f Q L A F d hr ac H1;go_wp2_with fail;go_quiet_grown (refine Calls.grown_of (cl _ _));go_wp2_with fail;go_roundg (h-i);case measure=>omega
    case rel=>exact⟨i,h,rfl,by first|rfl|simp|go_num,by omega,by omega,by omega,n1,S1.o.grown _ _⟩
  ·have ai:¬(i:Int)<(j:Int):=(by omega);have F:=H1.o;obtain⟨B,G,f⟩:=HL.o;obtain⟨x1,x2,x3,x4,x5,x6,x7⟩:=HX.o;have ap:=F.mi;have ah:j=i:=(by omega);obtain⟨n,hn⟩:∃n,i=m+n:=⟨i-m,by omega⟩
   have I:iE [x] R'=R'.take n++x::R'.drop n:=by
    conv=>lhs;rw[<-pJ n R']
    refine VB x _ _ (fun y Y=> ?_) (fun y Y=> ?_)
    ·obtain⟨t,ht,e⟩:=oG Y;rw[dF]at ht;have e2:iI (R'.take n) t=iI R' t:=(by unfold iI;rw[jQ (by omega)]);have K:=F.lo (m+t) (by omega) (by omega);rw[B,x2 (m+t) (by omega) (by omega),CB,<-e2,e]at K;exact K
    ·obtain⟨t,ht,e⟩:=oG Y;rw[dX]at ht;have e2:iI (R'.drop n) t=iI R' (n+t):=(by unfold iI;rw[kM]);have K:=F.hi (m+(n+t)) (by omega) (by omega);rw[B,x2 (m+(n+t)) (by omega) (by omega),CB,<-e2,e]at K;exact K
   have aj:n<=R'.length:=(by omega);have S2:Hid (mX w0 blk off (P++R'.take 0++x::R'.drop 0++S) wr):=by
    have:=S1.o;rw[B]at this;show mX _ _ _ _ _;simpa using this
   have HF:=hide I;have bb:a+n+1<=i:=(by omega);have ar:i<=a+n+1:=(by omega);have be:i<=D.length:=(by omega);have HZ:=hide (aQ x4 (aQ x5 aj));clear B G f x1 x2 x3 x4 x5 x6 x7 F ap ah hn I aj S1 H1 HL ab;go_wp2_with fail;go_loopg [13] n (fun kx s13 wr=>∃k:Nat,s13=V k/\a<=k/\k<=a+n/\kx=a+n-k/\Hid (mX w0 blk off (P++R'.take (k-a)++x::R'.drop (k-a)++S) wr));case atStart=>exact⟨a,rfl,by omega,by omega,by omega,by simpa using S2⟩
   case round=>
    clear S2;obtain⟨k,rfl,ba,bj,au,S3⟩:=hrel;by_cases av:k<a+n
    ·have N:(k:Int)<(i:Int)-1:=(by omega);obtain⟨z4,z5,z6⟩:=HZ.o;obtain⟨u,hu⟩:=aP (k-a);have an:u<R'.length:=(by omega);obtain⟨y,Y⟩:∃y,R'.drop u=y::R'.drop (u+1):=⟨R'[u],(O8 (h:=an)).symm⟩
     have ao:R'.take (u+1)=R'.take u++[y]:=by
      have K:R'[u]? =some y:=(by rw[<-lN u,<-kM,Y];rfl);rw[jE,K];rfl
     obtain⟨q,hq⟩:=aP (k+1);have C:=S3.o;rw[<-hu,Y]at C;have el:P++R'.take u++x::(y::R'.drop (u+1))++S=(P++R'.take u)++x::[]++y::(R'.drop (u+1)++S):=(by simp);rw[el]at C;have lp:k=(P++R'.take u).length:=(by simp;omega);have lq:q=(P++R'.take u).length+1+([]:List Pe).length:=(by simp;omega);have M:((P++R'.take u)++x::[]++y::(R'.drop (u+1)++S)).length=D.length:=(by rw[z4];simp;omega);have S4:=C.swap HR.o lp lq;have en:(P++R'.take u)++y::[]++x::(R'.drop (u+1)++S)=P++R'.take (k+1-a)++x::R'.drop (k+1-a)++S:=by
      rw[show k+1-a=u+1 by omega,ao];simp
     rw[en]at S4;obtain⟨ad,ae,aw,ax⟩:=C.cells HR.o M (i:=k) (by omega);obtain⟨af,ag,ay,az⟩:=C.cells HR.o M (i:=q) (by omega);rw[Nq lp]at ad ae;rw[Ld lq]at af ag;have m1:¬off+k*2=off+q*2:=(by omega);have m2:¬off+q*2=off+k*2:=(by omega);have m3:¬off+k*2+1=off+q*2+1:=(by omega);have m4:¬off+q*2+1=off+k*2+1:=(by omega);have m5:¬off+k*2+1=off+q*2:=(by omega);have m6:¬off+q*2+1=off+k*2:=(by omega);have m7:¬off+k*2=off+q*2+1:=(by omega);have m8:¬off+q*2=off+k*2+1:=(by omega);have rq:IntKind.i64.wrap ((k:Int)+1)=(q:Int):=(by rw[dK];omega);have bn:(k:Int)+1=(q:Int):=(by omega);have ep:((k:Int)).toNat=k:=(by omega);have eq:((q:Int)).toNat=q:=(by omega);have pp:(0:Int)<=(k:Int):=(by omega);have pq:(0:Int)<=(q:Int):=(by omega);have bp:(k:Int)<(D.length:Int):=(by omega);have bq:(q:Int)<(D.length:Int):=(by omega);have ev:∀z:Pe,∃(g k n:Nat) (c:Int),z.v= .slice (some (U g 0)) n k/\(z.c:Int)=c:=fun z=>⟨z.g,z.cap,z.s.length,_,rfl,rfl⟩
     obtain⟨xg,xk,xn,xc,X,A⟩:=ev x;obtain⟨yg,yk,yn,yc,aa,Z⟩:=ev y;rw[X,aa,A,Z]at S4;rw[X]at ae;rw[aa]at ag;rw[A]at ad;rw[Z]at af;have S5:=hide S4;have HQ:=hide hq;clear ev S4 S3 C z4 z5 z6 hu an Y ao hq el lp lq M en X aa A Z;go_wp2_with fail;go_big_region_o;go_wp2_with fail;go_roundg (a+n-(k+1));case measure=>omega
     case rel=>exact⟨k+1,by have:=HQ.o;first|(congr 1;omega)|go_num,by omega,by omega,by omega,S5⟩
    ·have N:¬(k:Int)<(i:Int)-1:=(by omega);go_wp2_with fail;refine aY (mD rfl _ _ _) rfl ?_;refine⟨rfl,?_⟩;have h:=S3.o;rw[show k-a=n by omega]at h;rw[HF.o];simpa using h
structure a00 (l:List Pe)(m b i j x:Nat):Prop where
 mi:m<=i
 ij:i<=j
 jb:j<=b
 lo:∀t,m<=t->t<i->(iI l t).c<=x
 hi:∀t,j<=t->t<b->x<(iI l t).c
set_option maxRecDepth 1000000 in
def QN (blk off cap a m b:Nat)(P L S F:List Pe)(y:Pe)(w0 w:aH)(R:RowK Pe.enc 2 w0 blk off F.toArray)(hs:F.length=(P++L++[y]++S).length)(H:mX w0 blk off (P++L++[y]++S) w)(ha:a=P.length)(hm:m=P.length+L.length)(hb:b=P.length+L.length+1)(ao:2<=L.length)(ak:mP L)(bn:F.length<4611686018427387904):Calls prog 222 #[.slice (some (U blk off)) F.length cap,V a,V m,V b,Tx] w fun e w'=>e= .returned (.tuple #[])/\mX w0 blk off (P++iE L [y]++S) w':=by
 have ar:=ay9;have H0:=hide H;have HR:=hide R;have b1:b<=F.length:=by rw[hs];simp;omega
 have b2:b<=m+1:=by omega
 have b4:m+1<=b:=by omega
 have b3:a+2<=m:=by omega
 have ey:iI (P++L++[y]++S) m=y:=by rw[dB,gV (by simp;omega),hm];simp[iI]
 have er:∀t,a<=t->t<m->iI (P++L++[y]++S) t=iI L (t-a):=fun t J h2=>by
  rw[dB,pQ (by simp;omega),gV (by omega),ha]
 have al:∀s t,a<=s->s<=t->t<m->(iI (P++L++[y]++S) s).c<=(iI (P++L++[y]++S) t).c:=fun s t J h2 h3=>by
  rw[er s J (by omega),er t (by omega) h3];exact rU ak (by omega) (by omega)
 have HX:=hide (aQ ey (aQ er (aQ al (aQ hs (aQ ha (aQ hm hb))))));have z1:¬IntKind.i64.wrap ((m:Int)-(a:Int))=1:=by rw[dK];omega
 have z2:IntKind.i64.wrap ((b:Int)-(m:Int))=1:=by rw[dK];omega
 have z3:¬((m:Int)-(a:Int))=1:=by omega
 clear H R hs ha hm hb ey er al ak ao;unfold Tx;go_enter func222,ntmps222;go_wp2_with fail;have zb:(((m:Int)-(a:Int))==1)=false:=by simp;omega
 rw[zb];obtain⟨l,B⟩:=aP (P++L++[y]++S);rw[<-B]at H0;have G:l.length=F.length:=by rw[B];exact HX.o.2.2.2.1.symm
 have f:iI l m=y:=by rw[B];exact HX.o.1
 have d:∀s t,a<=s->s<=t->t<m->(iI l s).c<=(iI l t).c:=by rw[B];exact HX.o.2.2.1
 have ac:=hide d;have HL:=hide (aQ B (aQ G f));clear B G f d;go_loopg [14,15] (m-a) (fun kx s14 s15 wr=>∃i j:Nat,s14=V i/\s15=V j/\i<=j/\j<=m/\kx=j-i/\Hid (a00 l a m i j y.c)/\Hid (mX w0 blk off l wr));case atStart=>exact⟨a,m,rfl,rfl,by omega,by omega,rfl,⟨by omega,by omega,by omega,fun t J h2=>by omega,fun t J h2=>by omega⟩,H0⟩
 case round=>
  clear H0;obtain⟨i,j,rfl,rfl,bc,bh,bk,H1,S1⟩:=hrel;by_cases bl:i<j
  ·have ai:(i:Int)<(j:Int):=(by omega);obtain⟨h,hh⟩:=aP ((i+j)/2);have bf:i<=h:=(by omega);have bg:h<j:=(by omega);obtain⟨B,G,f⟩:=HL.o;obtain⟨xg,xk,xn,yg,yk,yn,T⟩:=S1.o.test HR.o G (i:=m) (j:=h) (by omega) (by omega);rw[f]at T;obtain⟨c1,c2,c3,c4,cl⟩:=T;have e0:((h:Int)).toNat=h:=(by omega);have e1:((m:Int)).toNat=m:=(by omega);have p0:(0:Int)<=(h:Int):=(by omega);have p1:(0:Int)<=(m:Int):=(by omega);have q0:(h:Int)<(F.length:Int):=(by omega);have q1:(m:Int)<(F.length:Int):=(by omega);have hd:((i:Int)+(j:Int))/2=(h:Int):=(by omega);have hr:=OL (y.c:Int) ((iI l h).c:Int);obtain⟨r,Y⟩:=aP (Lib.compareInt (y.c:Int) ((iI l h).c:Int));rw[<-Y]at cl hr;have D:=H1.o;have d:=ac.o;obtain⟨hc,M⟩:∃hc:Int,hc=((iI l h).c:Int):=⟨_,rfl⟩
   obtain⟨yc,A⟩:∃yc:Int,yc=(y.c:Int):=⟨_,rfl⟩
   rw[<-M]at c3 cl;rw[<-A]at c1 cl;by_cases aj:r<0
   ·have n1:Hid (a00 l a m i h y.c):=⟨D.mi,by omega,by omega,D.lo,fun t J h2=>by
     have h3:=hr.1 aj;have h4:=d h t (by have:=D.mi;omega) (by omega) h2;omega⟩
    clear hh B G f Y M A D d hr H1;go_wp2_with fail;go_quiet_grown (refine Calls.grown_of (cl _ _));go_wp2_with fail;go_roundg (h-i);case measure=>omega
    case rel=>exact⟨i,h,rfl,by first|rfl|simp|go_num,by omega,by omega,by omega,n1,S1.o.grown _ _⟩
   ·have n1:Hid (a00 l a m (h+1) j y.c):=⟨by have:=D.mi;omega,by omega,by omega,fun t J h2=>by
     have h3:¬(y.c:Int)<((iI l h).c:Int):=fun y=>aj (hr.2 y);have h4:=d t h J (by omega) (by omega);omega,D.hi⟩
    clear hh B G f Y M A D d hr H1;go_wp2_with fail;have bm:decide (r<0)=false:=fT (by omega);go_quiet_grown (refine Calls.grown_of (cl _ _));go_wp2_with fail;go_roundg (j-(h+1));case measure=>omega
    case rel=>exact⟨h+1,j,by first|rfl|simp|go_num,rfl,by omega,by omega,by omega,n1,S1.o.grown _ _⟩
  ·have ai:¬(i:Int)<(j:Int):=(by omega);have D:=H1.o;obtain⟨B,G,f⟩:=HL.o;obtain⟨x1,x2,x3,x4,x5,x6,x7⟩:=HX.o;have ap:=D.mi;have ah:j=i:=(by omega);obtain⟨n,hn⟩:∃n,i=a+n:=⟨i-a,by omega⟩
   have I:iE L [y]=L.take n++y::L.drop n:=by
    conv=>lhs;rw[<-pJ n L]
    refine BL y _ _ (fun z hz=> ?_) (fun z hz=> ?_)
    ·obtain⟨t,ht,e⟩:=oG hz;rw[dF]at ht;have e2:iI (L.take n) t=iI L t:=(by unfold iI;rw[jQ (by omega)]);have K:=D.lo (a+t) (by omega) (by omega);rw[B,x2 (a+t) (by omega) (by omega),CB,<-e2,e]at K;exact K
    ·obtain⟨t,ht,e⟩:=oG hz;rw[dX]at ht;have e2:iI (L.drop n) t=iI L (n+t):=(by unfold iI;rw[kM]);have K:=D.hi (a+(n+t)) (by omega) (by omega);rw[B,x2 (a+(n+t)) (by omega) (by omega),CB,<-e2,e]at K;exact K
   have aq:n<=L.length:=(by omega);have S2:Hid (mX w0 blk off (P++L.take (m-a)++y::L.drop (m-a)++S) wr):=by
    have:=S1.o;rw[B]at this;show mX _ _ _ _ _;rw[show m-a=L.length by omega,sI,List.drop_length];simpa using this
   have HF:=hide I;have HZ:=hide (aQ x4 (aQ x5 (aQ x6 hn)));have bb:a<=i:=(by omega);have be:i<=m:=(by omega);clear B G f x1 x2 x3 x4 x5 x6 x7 D ap ah hn I aq S1 H1 HL ac;go_wp2_with fail;go_loopg [17] (m-i) (fun kx s17 wr=>∃k:Nat,s17=V (k:Nat)/\i<=k/\k<=m/\kx=k-i/\Hid (mX w0 blk off (P++L.take (k-a)++y::L.drop (k-a)++S) wr));case atStart=>exact⟨m,rfl,by omega,by omega,rfl,S2⟩
   case round=>
    clear S2;obtain⟨q,rfl,ba,bj,au,S3⟩:=hrel;by_cases av:i<q
    ·have X:(i:Int)<(q:Int):=(by omega);have Q:(q:Int)>(i:Int):=(by omega);obtain⟨z4,z5,z6,z7⟩:=HZ.o;obtain⟨k,hk⟩:∃k,q=k+1:=⟨q-1,by omega⟩
     obtain⟨u,hu⟩:=aP (k-a);have am:u<L.length:=(by omega);obtain⟨x,hx⟩:∃x,L.drop u=x::L.drop (u+1):=⟨L[u],(O8 (h:=am)).symm⟩
     have an:L.take (u+1)=L.take u++[x]:=by
      have K:L[u]? =some x:=(by rw[<-lN u,<-kM,hx];rfl);rw[jE,K];rfl
     have C:=S3.o;rw[show q-a=u+1 by omega,an]at C;have el:P++(L.take u++[x])++y::L.drop (u+1)++S=(P++L.take u)++x::[]++y::(L.drop (u+1)++S):=(by simp);rw[el]at C;have lp:k=(P++L.take u).length:=(by simp;omega);have lq:q=(P++L.take u).length+1+([]:List Pe).length:=(by simp;omega);have N:((P++L.take u)++x::[]++y::(L.drop (u+1)++S)).length=F.length:=(by rw[z4];simp;omega);have S4:=C.swap' HR.o lp lq;have en:(P++L.take u)++y::[]++x::(L.drop (u+1)++S)=P++L.take (k-a)++y::L.drop (k-a)++S:=by
      rw[<-hu,hx];simp
     rw[en]at S4;obtain⟨ad,ae,aw,ax⟩:=C.cells HR.o N (i:=k) (by omega);obtain⟨af,ag,ay,az⟩:=C.cells HR.o N (i:=q) (by omega);rw[Nq lp]at ad ae;rw[Ld lq]at af ag;have m1:¬off+k*2=off+q*2:=(by omega);have m2:¬off+q*2=off+k*2:=(by omega);have m3:¬off+k*2+1=off+q*2+1:=(by omega);have m4:¬off+q*2+1=off+k*2+1:=(by omega);have m5:¬off+k*2+1=off+q*2:=(by omega);have m6:¬off+q*2+1=off+k*2:=(by omega);have m7:¬off+k*2=off+q*2+1:=(by omega);have m8:¬off+q*2=off+k*2+1:=(by omega);have rq:IntKind.i64.wrap ((q:Int)-1)=(k:Int):=(by rw[dK];omega);have bo:(q:Int)-1=(k:Int):=(by omega);have ep:((k:Int)).toNat=k:=(by omega);have eq:((q:Int)).toNat=q:=(by omega);have pp:(0:Int)<=(k:Int):=(by omega);have pq:(0:Int)<=(q:Int):=(by omega);have bp:(k:Int)<(F.length:Int):=(by omega);have bq:(q:Int)<(F.length:Int):=(by omega);have ev:∀z:Pe,∃(g k n:Nat) (c:Int),z.v= .slice (some (U g 0)) n k/\(z.c:Int)=c:=fun z=>⟨z.g,z.cap,z.s.length,_,rfl,rfl⟩
     obtain⟨xg,xk,xn,xc,aa,Z⟩:=ev x;obtain⟨yg,yk,yn,yc,ab,A⟩:=ev y;rw[aa,ab,Z,A]at S4;rw[aa]at ae;rw[ab]at ag;rw[Z]at ad;rw[A]at af;have S5:=hide S4;have HK:=hide hk;clear ev S4 S3 C z4 z5 z6 z7 hu am hx an hk el lp lq N en aa ab Z A;go_wp2_with fail;go_big_region_o;go_wp2_with fail;go_roundg (k-i);case measure=>have:=HK.o;omega
     case rel=>exact⟨k,by first|rfl|go_num,by have:=HK.o;omega,by have:=HK.o;omega,rfl,S5⟩
    ·have X:¬(i:Int)<(q:Int):=(by omega);have Q:¬(q:Int)>(i:Int):=(by omega);go_wp2_with fail;refine aY (mD rfl _ _ _) rfl ?_;refine⟨rfl,?_⟩;have h:=S3.o;have z7:=HZ.o.2.2.2;rw[show q-a=n by omega]at h;rw[HF.o];simpa using h
end Go.Proofs.YtbpahojchgpdnaaGreatDoor
namespace Go.dM
variable {blk c hi i lo n off p q s:Nat} {W w0:aH}
structure xY (l:List Pe)(n lo hi s r:Nat):Prop where
 los:lo<=s
 sr:s<=r
 rhi:r<=hi
 low:s=lo\/(iI l (s-1)).c<=(iI l (n-s)).c
 high:r=hi\/(iI l (n-1-r)).c<(iI l r).c
def xY.start {l:List Pe}(h:lo<=hi):xY l n lo hi lo hi:=⟨by omega,h,by omega, .inl rfl, .inl rfl⟩
def xY.up {l:List Pe}{r:Nat}(h:xY l n lo hi s r)(a:s<=c)(b:c<r)(d:¬(iI l (n-1-c)).c<(iI l c).c):xY l n lo hi (c+1) r:=⟨by have:=h.los;omega,by omega,h.rhi, .inr (by rw[sV,show n-(c+1)=n-1-c by omega];omega),h.high⟩
def xY.down {l:List Pe}{r:Nat}(h:xY l n lo hi s r)(a:s<=c)(d:c<r)(b:(iI l (n-1-c)).c<(iI l c).c):xY l n lo hi s c:=⟨h.los,a,by have:=h.rhi;omega,h.low, .inr b⟩
def EI (a m b:Nat):Nat:=if(a+b)/2<m then(a+b)/2+m-b else a
def MO (a m b:Nat):Nat:=if(a+b)/2<m then(a+b)/2 else m
def UH {a m b:Nat}(d:a<m)(e:m<b):a<=EI a m b/\EI a m b<=MO a m b/\MO a m b<=m/\MO a m b<=(a+b)/2/\(a+b)/2+m<=EI a m b+b:=by
 unfold EI MO;by_cases h:(a+b)/2<m
 ·rw[aA h,aA h];omega
 ·rw[aB h,aB h];omega
def Rf {P L R S:List Pe}{a m b:Nat}(G:mP L)(H:mP R)(N:a=P.length)(hm:m=P.length+L.length)(hb:b=P.length+L.length+R.length)(K:a<m)(M:m<b)(h:xY (P++L++R++S) ((a+b)/2+m) (EI a m b) (MO a m b) s s):∃o A r B,L=o++A/\R=r++B/\a+o.length=s/\m+r.length=(a+b)/2+m-s/\iE L R=iE o r++iE A B:=by
 obtain⟨Y,g2,g3,g4,g5⟩:=UH K M;have k1:=h.los;have k2:=h.rhi;have D:∀t,a<=t->t<m->iI (P++L++R++S) t=iI L (t-a):=fun t x y=>by
  rw[dB,pQ (by simp;omega),gV (by omega),N]
 have F:∀t,m<=t->t<b->iI (P++L++R++S) t=iI R (t-m):=fun t x y=>by
  rw[pQ (by simp;omega),gV (by simp;omega)];congr 1;simp;omega
 obtain⟨u,g⟩:=aP (s-a);obtain⟨v,l⟩:=aP ((a+b)/2-s);have T:u<=L.length:=by omega
 have X:v<=R.length:=by omega
 refine⟨L.take u,L.drop u,R.take v,R.drop v,(pJ u L).symm,(pJ v R).symm,by rw[dF];omega,by rw[dF];omega,?_⟩;conv=>lhs;rw[<-pJ u L,<-pJ v R]
 have tk:∀(Z:List Pe) (k t:Nat),t<k->iI (Z.take k) t=iI Z t:=fun Z k t Q=>by unfold iI;rw[jQ Q]
 have C:∀(Z:List Pe) (k t:Nat),iI (Z.drop k) t=iI Z (k+t):=fun Z k t=>by unfold iI;rw[kM]
 refine kY _ _ _ _ (fun x w y z=> ?_) (fun x w y z=> ?_)
 ·obtain⟨i,hi,rfl⟩:=oG w;obtain⟨j,f,rfl⟩:=oG z;rw[dF]at hi;rw[dX]at f;rw[tk _ _ _ (by omega),C];rcases h.low with e|e
  ·exfalso;rw[e]at g l;revert g l hi f;unfold EI;by_cases d:(a+b)/2<m
   ·rw[aA d];intros;omega
   ·rw[aB d];intros;omega
  ·have hs:EI a m b<s\/s=EI a m b:=(by omega);rw[D (s-1) (by omega) (by omega),F ((a+b)/2+m-s) (by omega) (by omega)]at e;have I:=rU G (i:=i) (j:=s-1-a) (by omega) (by omega);have J:=rU H (i:=(a+b)/2+m-s-m) (j:=v+j) (by omega) (by omega);omega
 ·obtain⟨i,hi,rfl⟩:=oG w;obtain⟨j,f,rfl⟩:=oG z;rw[dF]at hi;rw[dX]at f;rw[tk _ _ _ (by omega),C];rcases h.high with e|e
  ·exfalso;rw[e]at g l;revert g l hi f;unfold MO;by_cases d:(a+b)/2<m
   ·rw[aA d];intros;omega
   ·rw[aB d];intros;omega
  ·rw[D s (by omega) (by omega),F ((a+b)/2+m-1-s) (by omega) (by omega)]at e;have I:=rU G (i:=s-a) (j:=u+j) (by omega) (by omega);have J:=rU H (i:=i) (j:=(a+b)/2+m-1-s-m) (by omega) (by omega);omega
end Go.dM
