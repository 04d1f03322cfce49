import Derived.Test.YtbpahojchgpdnaaGreatDoorSoPair
set_option maxRecDepth 20000
set_option maxHeartbeats 4000000
set_option linter.all false
namespace Go.dM
def BdP (c0 m:Nat)(l:List Pa):Prop:=∀p∈l,p.c<=c0*m/\1<=p.s.length/\p.s.length<=m
def UD {a m:Nat}:∀l:List Pa,BdP a m l->BdP a (2*m) (pairUp l)
 |[],_=>by intro p hp;simp[pairUp]at hp
 |[_],_=>by intro p hp;simp[pairUp]at hp
 |x::y::r,h=>by
  intro p hp
  rw[pairUp,fE]at hp
  rcases hp with rfl|hp
  ·obtain⟨a1,a2,d⟩:=h x (by simp)
   obtain⟨b1,b2,e⟩:=h y (by simp)
   refine⟨?_,?_,?_⟩
   ·show x.c+y.c<=a*(2*m)
    have:a*(2*m)=a*m+a*m:=by rw[show 2*m=m+m by omega,Nat.mul_add]
    omega
   ·simp;omega
   ·simp;omega
  ·exact UD r (fun q b=>h q (by simp[b])) p hp
def KU:∀(l:List Pa) (p:Pa),p∈pK l↔p∈l
 |[],_=>Iff.rfl
 |x::l,p=>by rw[pK,Ae,KU l p,fE]
def LW (x:Pa):∀l:List Pa,(rA x l).length=l.length+1
 |[]=>rfl
 |y::l=>by
  rw[rA]
  split
  ·rfl
  ·rw[iN,LW x l,iN]
def JR:∀l:List Pa,(pK l).length=l.length
 |[]=>rfl
 |x::l=>by rw[pK,LW,JR l,iN]
def Y1 {a:Nat}{S:List Pa}(h:BdP a 1 S):∀k,BdP a (2^k) (qP S k)
 |0=>by intro p hp;simp[qP]at hp
 |k+1=>by
  intro p hp
  rw[qP,KU,iF]at hp
  have b:1<=2^(k+1):=Nat.one_le_two_pow
  rcases hp with hp|hp
  ·obtain⟨a1,a2,c⟩:=h p hp
   exact⟨bB a1 (OM a b),a2,bB c b⟩
  ·have:=UD _ (Y1 h k) p hp
   rw[show 2*2^k=2^(k+1) by rw[gW];omega]at this
   exact this
def wX (S:List Pa):∀k,(qP S k).length<=2*S.length
 |0=>by simp[qP]
 |k+1=>by
  have:=wX S k
  rw[qP,JR,aN,mW]
  omega
def Kz (f:Nat->Nat)(l:aD)(a:Nat)(h:∀i,f i<=a):BdP a 1 (l.map (mk1 f)):=by intro p hp;simp only[sU]at hp;obtain⟨i,_,rfl⟩:=hp;exact⟨by have:=h i;simp[mk1];exact this,by simp[mk1],by simp[mk1]⟩
def NG {q:Nat->Prop}:∀l:List Pa,(∀p∈l,∀i∈p.s,q i)->∀p∈pairUp l,∀i∈p.s,q i
 |[],_=>by intro p hp;simp[pairUp]at hp
 |[_],_=>by intro p hp;simp[pairUp]at hp
 |x::y::r,h=>by
  intro p hp i hi
  rw[pairUp,fE]at hp
  rcases hp with rfl|hp
  ·rcases iF.1 hi with hi|hi
   ·exact h x (by simp) i hi
   ·exact h y (by simp) i hi
  ·exact NG r (fun p hp=>h p (by simp[hp])) p hp i hi
def LA {q:Nat->Prop}{S:List Pa}(h:∀p∈S,∀i∈p.s,q i):∀k,∀p∈qP S k,∀i∈p.s,q i
 |0=>by intro p hp;simp[qP]at hp
 |k+1=>by
  intro p hp
  rw[qP,KU,iF]at hp
  rcases hp with hp|hp
  ·exact h p hp
  ·exact NG _ (LA h k) p hp
def bI (L:aD)(k:Nat):aD:=
 let sy:=comes L L.length
 (List.range L.length).map fun i=>if sy.length<2 then(if i∈sy then 1 else 0)else eY ((qP (sy.map (mk1 (often L))) k).take (2*sy.length-2)) i
def cK (L:aD)(k:Nat):(bI L k).length=L.length:=by simp[bI]
def lG (L:aD)(k i:Nat)(h:i<L.length):often (bI L k) i=if(comes L L.length).length<2 then(if i∈comes L L.length then 1 else 0)else eY ((qP ((comes L L.length).map (mk1 (often L))) k).take (2*(comes L L.length).length-2)) i:=by unfold often bI;rw[kE,zI h];rfl
def ah4 {f:Nat->Nat}{sy:aD}{k:Nat}(a:sy.Nodup)(b:2<=sy.length)(hk:sy.length<=2^k)(i:Nat):eY ((qP (sy.map (mk1 f)) k).take (2*sy.length-2)) i<=k:=(yA f sy a b k hk).2.1 i
def rV (L:aD)(k i:Nat)(hk:1<=k)(hs:L.length<=2^k):often (bI L k) i<=k:=by
 by_cases h:i<L.length
 ·rw[lG L k i h];have b:=qZ L L.length;by_cases a:(comes L L.length).length<2
  ·rw[aA a];split<;>omega
  ·rw[aB a];exact ah4 (tO _ _) (by omega) (by omega) i
 ·have:often (bI L k) i=0:=by
   unfold often;rw[fZ (by rw[cK];omega)];rfl
  omega
def Au (A B:List Pa)(i:Nat):eY (A++B) i=eY A i+eY B i:=by
 induction A with
 |nil=>simp[eY]
 |cons a A ih=>simp only[jZ,eY,ih];omega
def Qj {a m:Nat}(i:Nat):∀(l:List Pa) (t:Nat),BdP a m l->eY (l.take t) i<=t*m
 |_,0,_=>by simp[eY]
 |[],t+1,_=>by simp[eY]
 |p::l,t+1,h=>by
  have c:=Qj i l t (fun q b=>h q (by simp[b]))
  have d:=(h p (by simp)).2.2
  have e:p.s.count i<=p.s.length:=O3
  rw[zK,eY,wO,wJ]
  omega
def SK {l:List Pa}{t:Nat}{p:Pa}(h:l[t]? =some p)(i:Nat):eY (l.take (t+1)) i=eY (l.take t) i+p.s.count i:=by rw[jE,h,Au];simp[eY]
def zV {s:aD}{j x:Nat}(h:s[j]? =some x)(i:Nat):(s.take (j+1)).count i=(s.take j).count i+(if i=x then 1 else 0):=by
 rw[jE,h,List.count_append];by_cases e:i=x
 ·subst e;simp
 ·simp[e,Ne.symm e]
end Go.dM
namespace Go.Proofs.YtbpahojchgpdnaaGreatDoor
open Go.RowKit Go.Shelf Go.Lib Go.Sort Go.dM Go.Proofs.Tryz
def xX.pes {B:Nat}{w:aH}{v:aK}{S:List Pe}(h:xX B w v S):vL w v S:=vL.D6 h.row
def fB (w:aH)(g n:Nat)(f:Nat->Nat):Prop:=bA w g 3 n fun i=>V (f i:Nat)
def vY {w:aH}{base g n:Nat}(h:w.ownsRow base 3 1 (.slice (some (U g 0)) n n) n (madeCells (V 0).cells (n*1)).toList):fB w g n (fun _=>0):=by have a:=RA h;refine⟨_,a,by simp[ci],fun i hi=> ?_⟩;simp[ci,hi]
def vH (g off cap k:Nat)(L:aD)(w:aH)(h:gG w g off L)(hL:L.length<=1000)(du:1<=L.length)(av:∀i,often L i<=1000000)(hk:1<=k)(ec:k<=15)(hs:L.length<=2^k):Calls prog 183 #[.slice (some (U g off)) L.length cap,V (k:Nat)] w fun e w'=>∃gl,e= .returned (.slice (some (U gl 0)) L.length L.length)/\w.heap.size<=gl/\fB w' gl L.length (often (bI L k))/\O w w':=by
 obtain⟨i0,hi,en,eo,ep⟩:=eD info3;have HI:=hide h;obtain⟨n,hn⟩:=aP L.length;have fo:n<=1000:=by omega
 have fn:1<=n:=by omega
 rw[<-hn];have HN:=hide hn;have aq:=hide av;have bv:=hide (aQ hL (aQ hk (aQ ec hs)));clear h hL du av hs hn;go_enter func183,ntmps183;go_wp2_with (at_make;refine sD _ rfl _ _ 57 rfl w.heap.size 3 i0 (V 0) 1 underlying57 hi en eo .i64 .i64 _ _ n rfl rfl rfl rfl (by rw[ep];omega) (by unfold maxLen;omega) (aS _) ?_;intro w1 W aw);have ad:O w w1:=(aU _ _).grown aw (fun k e=>by cases e);have ai:fB w1 w.heap.size n (fun _=>0):=vY W;have dz:w.heap.size<w1.heap.size:=ai.lt;have bm:=Tq g off cap L w1 (HI.o.step ad (fun y=>y)) bv.o.1 (fun i=>by have:=aq.o i;omega);rw[<-HN.o]at bm;apply bm.mono;rintro e w2 ⟨v,S,rfl,F,X,H⟩;obtain⟨G,hG⟩:=aP w.heap.size;rw[<-hG]at ai dz|-
 have fi:¬G=1000000000000000\/True:= .inr bT;have cg:=ai.step H (fun y=>y);have fh:=H.size;have I:=hide cg;have ar:=hide F;have D:=hide (ad.trans H);obtain⟨sy,K⟩:=aP (comes L n);rw[<-K]at X;have z:S.length=sy.length:=by have:=lZ List.length X;simpa using this
 have ay:∀i,i<n->often (bI L k) i=if sy.length<2 then(if i∈sy then 1 else 0)else eY ((qP (sy.map (mk1 (often L))) k).take (2*sy.length-2)) i:=fun i hi=>by
  have hN:=HN.o;rw[K,hN];exact lG L k i (by omega)
 have dc:sy.length<=n:=by rw[K];exact qZ L n
 have ct:sy.Nodup:=by rw[K];exact tO L n
 have dl:=hide ct;have bf:∀i∈sy,i<n:=fun i hi=>by rw[K]at hi;exact((oQ L n i).1 hi).1
 have r:=hide ay;have T:=hide bf;have af:=hide hG;have hp:=F.pes;have cz:=F.row.lt;clear ct W aw ad ai bm F H cg K ay bf hG;obtain⟨hv,dv⟩|⟨gs,cs,hv,ej,fj,ah⟩:=hp
 ·subst dv hv;have ac:sy.length=0:=by simpa using z.symm
  go_wp2_with fail;go_ret;refine⟨G,rfl,by have:=af.o;omega,I.o.congr (fun i hi=> ?_),D.o⟩;have m:=r.o i hi;rw[m,aA (by omega),kP ac];rfl
 ·subst hv;have fa:=(cz gs rfl).1;clear cz;by_cases h1:S.length=1
  ·obtain⟨p,rfl⟩:=Iz h1;have ba:sy.length=1:=(by simpa using z.symm);obtain⟨x,P⟩:∃x,sy=[x]:=by
    match sy,ba with
    |[x],_=>exact⟨x,rfl⟩
   have bo:x<n:=T.o x (by rw[P];simp);have bl:p.s=[x]:=by
    have m:=X;rw[P]at m;simp only[uI,List.map_nil,sN,jX]at m;exact lZ Pa.s m
   obtain⟨a0,a1,_,_⟩:=ah 0 (by simp);have be:=ar.o.sy p (by simp);have ax:=be.2.2 0 x (by rw[bl];rfl);have cd:(iI [p] 0).v= .slice (some (U p.g 0)) 1 p.cap:=(by show Value.slice _ p.s.length _=_;rw[bl];rfl);rw[cd]at a1;have cc:(iI [p] 0).c=p.c:=rfl;rw[cc]at a0;obtain⟨pc,Z⟩:∃c:Int,c=(p.c:Int):=⟨_,rfl⟩
   obtain⟨pg,u⟩:=aP p.g;obtain⟨pk,aa⟩:=aP p.cap;rw[<-Z]at a0;rw[<-u,<-aa]at a1;rw[<-u]at ax;have cx:=I.o.cell x bo;have fx:=I.o.free x;have ex:((x:Int)).toNat=x:=(by omega);have px:(0:Int)<=(x:Int):=(by omega);have qx:(x:Int)<(n:Int):=(by omega);have HX:=hide P;have er:¬gs=G:=(by omega);clear be cd cc Z u aa bl P z ba dc;simp only[Nat.zero_mul,dS]at a0 a1;go_wp2_with fail;go_ret;have ea:=af.o;refine⟨G,rfl,by omega,(I.o.set x (V (1:Nat))).congr (fun i hi=> ?_),D.o.aZ (p:=(U G x)) (by show w.heap.size<=G;omega) _⟩;have m:=r.o i hi;have h8:=HX.o;rw[m,h8,aA (show([x]:aD).length<2 by simp)];by_cases cp:i=x
   ·simp[cp]
   ·simp[cp]
  ·by_cases h0:S.length=0
   ·have ac:sy.length=0:=(by omega);rw[h0];go_wp2_with fail;go_ret;refine⟨G,rfl,by have:=af.o;omega,I.o.congr (fun i hi=> ?_),D.o⟩;have m:=r.o i hi;rw[m,aA (by omega),kP ac];rfl
   ·have h2:2<=S.length:=(by omega);obtain⟨N,hN⟩:=aP S.length;rw[<-hN]at h2 z ej|-
    have dm:=hide hN;have z1:¬(N:Int)=1:=(by omega);have z2:¬(N:Int)<2:=(by omega);have fe:N<=1000:=(by omega);have dq:=hide z;have an:=ar.o;obtain⟨SP,J⟩:=aP (sy.map (mk1 (often L)));have cb:SP.length=N:=(by rw[J,nG];exact z.symm);have ce:BdP 1000000 1 SP:=(by rw[J];exact Kz _ _ _ aq.o);have cn:2*N-2<=(qP SP k).length:=by
     rw[J,z];exact(yA (often L) sy dl.o (by omega) k (by obtain⟨_,_,_,m⟩:=bv.o;have:=HN.o;omega)).1
    have aj:∀p∈qP SP k,∀i∈p.s,i<n:=fun p hp i hi=>by
     have m:=LA (S:=SP) (q:=fun i=>i<n) (fun p hp i hi=>by
      rw[J]at hp;simp only[sU]at hp;obtain⟨x,P,rfl⟩:=hp;simp only[mk1,qB]at hi;subst hi;exact T.o i P) k p hp i hi
     exact m
    have df:=hide aj;rw[<-J]at X r;have bp:=hide ce;have dh:=hide an.lo;have ds:=hide an.sy;have dn:=hide an.pes;have R:=hide cb;clear h1 h0 hN z an J cb ce T;go_wp2_with fail;have zb:((N:Int)==1)=false:=(by simp;omega);have zd:decide ((N:Int)<2)=false:=(by simp;omega);first|rw[zb,zd]|rw[zb]|skip
    go_loopg [7,33] k (fun kx u7 u33 wr=>∃(j:Nat) (v:aK) (l:List Pe),u33=V j/\u7=v/\j<=k/\kx=k-j/\Hid (vL wr v l)/\Hid (∀p∈l,EF wr p/\G<p.g)/\Hid (∀b,v.ownBlock=some b->G<b)/\Hid (l.map Pe.pa=qP SP j)/\Hid (O w2 wr));case atStart=>exact⟨0,_,[],rfl,rfl,by omega,rfl, .inl ⟨rfl,rfl⟩,(fun p hp=>by simp at hp:∀p∈([]:List Pe),EF w2 p/\G<p.g),(fun b hb=>(by cases hb):∀b,(Value.slice none 0 0).ownBlock=some b->G<b),rfl,aU _ _⟩
    case round=>
     obtain⟨j,v,l,rfl,rfl,hj,fk,HP,HL,bq,HR,HS⟩:=hrel;by_cases fm:j<k
     ·have cq:(j:Int)<(k:Int):=(by omega);have bx:=Y1 bp.o j;have de:=wX SP j;rw[<-HR.o]at bx de;rw[nG,R.o]at de;have ag:2^j<=32768:=bB (gL (by omega) (show j<=15 by omega)) (by decide);have kp:=Vg u7 l wr HP.o (fun p hp=>(HL.o p hp).1) (by omega) (fun p hp=>by
       obtain⟨b1,b2,b3⟩:=bx p.pa (O5 hp);exact⟨bB b1 (bB (OM 1000000 ag) (by decide)),b2,bB b3 (by omega)⟩)
      go_wp2_with (first
       |(go_at_call 198;apply kp.mono;rintro e w3 ⟨v3,Q,rfl,f,Y,A⟩)
       |fail)
      have ca:=dm.o;have ab:=dn.o.step (HS.o.trans A);rw[<-ca]at ab;have eh:Q.length<=1000:=by
       have m:=lZ List.length Y;rw[nG,mW,nG]at m;have h8:=wX SP j;rw[<-HR.o,nG,R.o]at h8;omega
      have db:=Nb (.slice (some (U gs 0)) N cs) v3 S Q w3 ab f.pes (by omega) (by omega);have bc:∀p∈dU (S++Q),EF w3 p/\G<p.g:=fun p hp=>by
       rcases iF.1 ((XC _ _).1 hp)with hp|hp
       ·exact⟨(ds.o p hp).step (HS.o.trans A) (fun y=>y),by have:=dh.o p hp;omega⟩
       ·exact⟨f.sy p hp,by have:=f.lo p hp;have:=HS.o.size;omega⟩
      have cy:(dU (S++Q)).map Pe.pa=qP SP (j+1):=by
       rw[Fw,sS,X,Y,HR.o];rfl
      have fq:w2.heap.size<=w3.heap.size:=(by have:=HS.o.size;have:=A.size;omega);have dr:=hide db;have au:=hide bc;have dp:=hide cy;have bw:=hide (HS.o.trans A);clear db bc cy f Y A ab ca eh HP HL bq HR HS;go_wp2_with (go_at_call 197;apply dr.o.mono;rintro e w4 ⟨v4,rfl,eg,dw,bb⟩);go_roundg (k-(j+1));case measure=>omega
      case rel=>exact⟨j+1,v4,dU (S++Q),by go_num,rfl,by omega,rfl,eg,(fun p hp=>⟨(au.o p hp).1.step bb (fun y=>y),(au.o p hp).2⟩:∀p∈dU (S++Q),EF w4 p/\G<p.g),(fun b hb=>(by have:=dw b hb;omega):∀b,v4.ownBlock=some b->G<b),dp.o,bw.o.trans bb⟩
     ·have cq:¬(j:Int)<(k:Int):=(by omega);have eb:j=k:=(by omega);subst eb;have ef:=lZ List.length HR.o;rw[nG]at ef;have cn:=cn;obtain⟨M,hM⟩:=aP (2*N-2);have bz:M<=l.length:=(by omega);have fl:l.length<=10000:=by
       have h8:=wX SP j;have h7:=R.o;omega
      have fd:2*(N:Int)-2=(M:Int):=(by omega);obtain⟨hv,ed⟩|⟨gr,cr,hv,ee,co,ah⟩:=HP.o
      ·exfalso;subst ed;simp at bz;omega
      ·subst hv;have fc:(M:Int)<=(cr:Int):=(by omega);have ff:=bq.o gr rfl;have HM:=hide hM;obtain⟨ll,ak⟩:=aP l.length;rw[<-ak]at bz ee|-
       have dg:=hide ak;have fb:2<=M:=(by omega);have dt:G<wr.heap.size:=(by have:=HS.o.size;omega);have ck:fB wr G n (fun i=>eY ((l.map Pe.pa).take 0) i):=(I.o.step HS.o (fun y=>y)).congr (fun i hi=>rfl);have bs:=hide ck;have cf:BdP 1000000 (2^j) (l.map Pe.pa):=(by rw[HR.o];exact Y1 bp.o j);have ag:2^j<=32768:=bB (gL (by omega) (show j<=15 by omega)) (by decide);have ae:=hide (aQ cf ag);obtain⟨w5,dd⟩:=aP wr;rw[<-dd]at bs ah HP HL HS co dt|-
       clear dd ck cf ag;go_wp2_with fail;go_loopg [47] M (fun kx u47 wq=>∃t:Nat,u47=V t/\t<=M/\kx=M-t/\Hid (fB wq G n (fun i=>eY ((l.map Pe.pa).take t) i))/\Hid (Step (fun k=>k=G) w5 wq));case atStart=>exact⟨0,rfl,by omega,rfl,bs,aU _ _⟩
       case round=>
        obtain⟨t,rfl,fp,et,d,a⟩:=hrel;by_cases ev:t<M
        ·have bj:(t:Int)<(M:Int):=(by omega);have ak:=dg.o;have ap:t<l.length:=(by omega);obtain⟨a0,a1,_,_⟩:=ah.step a.o (by omega) co t ap;obtain⟨p,hp⟩:=aP (iI l t);rw[<-hp]at a0 a1;have al:p∈l:=(by rw[hp];exact G5 ap);have cv:(l.map Pe.pa)[t]? =some p.pa:=by
          rw[kE,hp];unfold iI;rw[bV ap];rfl
         obtain⟨y1,y2⟩:=HL.o p al;have ao:=y1.step a.o (by omega);have cw:p.v= .slice (some (U p.g 0)) p.s.length p.cap:=rfl;rw[cw]at a1;obtain⟨pn,am⟩:=aP p.s.length;obtain⟨pg,u⟩:=aP p.g;obtain⟨pk,aa⟩:=aP p.cap;obtain⟨pc,Z⟩:∃c:Int,c=(p.c:Int):=⟨_,rfl⟩
         rw[<-Z]at a0;rw[<-am,<-u,<-aa]at a1;have cu:=(ae.o.1 p.pa (O5 al)).2.2;have ey:pn<=32768:=(by have:=ae.o.2;rw[am];exact bB cu this);have cj:∀i,eY ((l.map Pe.pa).take t) i<=2000*32768:=fun i=>by
          have m:=Qj i _ t ae.o.1;exact bB m (Nat.mul_le_mul (by omega) ae.o.2)
         have aj:∀s x,p.s[s]? =some x->x<n:=fun s x P=>df.o p.pa (by rw[<-HR.o];exact O5 al) x (nZ P);have bt:=hide (aQ cv (aQ am (aQ u (aQ ao aj))));have e0:((t:Int)).toNat=t:=(by omega);have p0:(0:Int)<=(t:Int):=(by omega);have ez:G<pg:=(by omega);have eq:gr<wr.heap.size:=(by have:=a.o.size;omega);have fr:=a.o.size;have el:=ao.2.1;rw[<-u]at el;clear hp al cv y1 y2 ao cw am u aa Z cu aj ak ap;go_wp2_with fail;obtain⟨w6,bn⟩:=aP (wr.alloc (.cells #[V pc, .slice (some (U pg 0)) pn pk] 243));rw[<-bn];have h6:O wr w6:=(by rw[bn];exact(aU _ _).alloc _);have ch:fB w6 G n (fun i=>eY ((l.map Pe.pa).take t) i+(p.s.take 0).count i):=(d.o.step h6 (fun y=>y)).congr (fun i hi=>by simp);have da:Step (fun k=>k=G) w5 w6:=a.o.trans (h6.mono (fun _ y=>y.elim));obtain⟨q1,q2,q3,q4,q5⟩:=bt.o;have ei:=q4.step h6 (fun y=>y);have br:=hide ch;have bu:=hide da;have ft:=h6.size;clear bn h6 ch da q1 q2 q3 q4 q5 d a a0 a1;go_loopg [54] pn (fun kx u54 wq=>∃s:Nat,u54=V (s:Nat)/\s<=pn/\kx=pn-s/\Hid (fB wq G n (fun i=>eY ((l.map Pe.pa).take t) i+(p.s.take s).count i))/\Hid (Step (fun k=>k=G) w5 wq)/\Hid (EF wq p));case atStart=>exact⟨0,rfl,by omega,rfl,br,bu,ei⟩
         case round=>
          clear br bu;obtain⟨s,rfl,ao,eu,d,a,bg⟩:=hrel;obtain⟨q1,q2,q3,q4,q5⟩:=bt.o;by_cases ew:s<pn
          ·have bk:(s:Int)<(pn:Int):=(by omega);obtain⟨x,P⟩:∃x,p.s[s]? =some x:=⟨_,bV (by omega)⟩
           have bo:=q5 s x P;have dy:=bg.o.2.2 s x P;rw[<-q3]at dy;have cG:=d.o.cell x bo;have fG:=d.o.free x;have cj:=cj x;have dx:(p.s.take s).count x<=s:=bB O3 (by rw[dF];omega);obtain⟨c,bh⟩:=aP (eY ((l.map Pe.pa).take t) x+(p.s.take s).count x);dsimp only at cG;rw[<-bh]at cG;have fg:c<=100000000:=(by omega);have ex:((x:Int)).toNat=x:=(by omega);have es:((s:Int)).toNat=s:=(by omega);have px:(0:Int)<=(x:Int):=(by omega);have ps:(0:Int)<=(s:Int):=(by omega);have qx:(x:Int)<(n:Int):=(by omega);have az:fB (wr.setCell (U G x) (V ((c+1:Nat):Int))) G n (fun i=>eY ((l.map Pe.pa).take t) i+(p.s.take (s+1)).count i):=by
            refine(d.o.set x (V ((c+1:Nat):Int))).congr (fun i hi=> ?_);dsimp only;rw[zV P i];by_cases e:i=x
            ·subst e;simp only[aA];rw[bh];congr 1
            ·simp only[aB e,lN]
           have C:=a.o.setCell (p:=(U G x)) rfl (V ((c+1:Nat):Int));have B:=bg.o.step ((aU (fun k=>k=G) wr).setCell (p:=(U G x)) rfl (V ((c+1:Nat):Int))) (by omega);have cl:(c:Int)+1=((c+1:Nat):Int):=(by omega);rw[<-cl]at az C B;have dj:=hide C;have dk:=hide B;clear q1 q2 q3 q4 q5 P bh dx C B cl d a bg;go_wp2_with fail;go_roundg (pn-(s+1));case measure=>omega
           case rel=>exact⟨s+1,by go_num,by omega,rfl,az,dj,dk⟩
          ·have bk:¬(s:Int)<(pn:Int):=(by omega);have ek:s=pn:=(by omega);have cm:fB wr G n (fun i=>eY ((l.map Pe.pa).take (t+1)) i):=d.o.congr (fun i hi=>by
            dsimp only;rw[SK q1 i,ek,q2,sI];rfl)
           have HF:=hide cm;go_wp2_with fail;go_roundg (M-(t+1));case measure=>omega
           case rel=>exact⟨t+1,by go_num,by omega,rfl,HF,a⟩
        ·have bj:¬(t:Int)<(M:Int):=(by omega);have em:t=M:=(by omega);subst em;go_wp2_with fail;go_ret;have ea:=af.o;refine⟨G,rfl,by omega,d.o.congr (fun i hi=> ?_),(D.o.trans HS.o).trans' a.o (fun i hi y=>by omega)⟩;have m:=r.o i hi;have h8:=dq.o;rw[m,aB (by omega),HR.o,HM.o,h8]
end Go.Proofs.YtbpahojchgpdnaaGreatDoor
