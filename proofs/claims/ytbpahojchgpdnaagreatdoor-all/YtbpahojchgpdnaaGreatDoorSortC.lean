import Derived.Test.YtbpahojchgpdnaaGreatDoorSoPair
set_option maxRecDepth 20000
set_option maxHeartbeats 4000000
set_option linter.all false
namespace Go.dM
def BdP (c0 m:Nat)(l:List Pa):Prop:=∀p∈l,p.c<=c0*m/\1<=p.s.length/\p.s.length<=m
def UD {a m:Nat}:∀l:List Pa,BdP a m l->BdP a (2*m) (pairUp l)
 |[],_=>by intro p hp;simp[pairUp]at hp
 |[_],_=>by intro p hp;simp[pairUp]at hp
 |x::y::r,h=>by
  intro p hp
  rw[pairUp,fE]at hp
  rcases hp with rfl|hp
  ·obtain⟨a1,a2,d⟩:=h x (by simp)
   obtain⟨b1,b2,e⟩:=h y (by simp)
   refine⟨?_,?_,?_⟩
   ·show x.c+y.c<=a*(2*m)
    have:a*(2*m)=a*m+a*m:=by rw[show 2*m=m+m by omega,Nat.mul_add]
    omega
   ·simp;omega
   ·simp;omega
  ·exact UD r (fun q b=>h q (by simp[b])) p hp
def KU:∀(l:List Pa) (p:Pa),p∈pK l↔p∈l
 |[],_=>Iff.rfl
 |x::l,p=>by rw[pK,Ae,KU l p,fE]
def LW (x:Pa):∀l:List Pa,(rA x l).length=l.length+1
 |[]=>rfl
 |y::l=>by
  rw[rA]
  split
  ·rfl
  ·rw[iN,LW x l,iN]
def JR:∀l:List Pa,(pK l).length=l.length
 |[]=>rfl
 |x::l=>by rw[pK,LW,JR l,iN]
def Y1 {a:Nat}{S:List Pa}(h:BdP a 1 S):∀k,BdP a (2^k) (qP S k)
 |0=>by intro p hp;simp[qP]at hp
 |k+1=>by
  intro p hp
  rw[qP,KU,iF]at hp
  have b:1<=2^(k+1):=Nat.one_le_two_pow
  rcases hp with hp|hp
  ·obtain⟨a1,a2,c⟩:=h p hp
   exact⟨bB a1 (OM a b),a2,bB c b⟩
  ·have:=UD _ (Y1 h k) p hp
   rw[show 2*2^k=2^(k+1) by rw[gW];omega]at this
   exact this
def wX (S:List Pa):∀k,(qP S k).length<=2*S.length
 |0=>by simp[qP]
 |k+1=>by
  have:=wX S k
  rw[qP,JR,aN,mW]
  omega
def Kz (f:Nat->Nat)(l:aD)(a:Nat)(h:∀i,f i<=a):BdP a 1 (l.map (mk1 f)):=by intro p hp;simp only[sU]at hp;obtain⟨i,_,rfl⟩:=hp;exact⟨by have:=h i;simp[mk1];exact this,by simp[mk1],by simp[mk1]⟩
def NG {q:Nat->Prop}:∀l:List Pa,(∀p∈l,∀i∈p.s,q i)->∀p∈pairUp l,∀i∈p.s,q i
 |[],_=>by intro p hp;simp[pairUp]at hp
 |[_],_=>by intro p hp;simp[pairUp]at hp
 |x::y::r,h=>by
  intro p hp i hi
  rw[pairUp,fE]at hp
  rcases hp with rfl|hp
  ·rcases iF.1 hi with hi|hi
   ·exact h x (by simp) i hi
   ·exact h y (by simp) i hi
  ·exact NG r (fun p hp=>h p (by simp[hp])) p hp i hi
def LA {q:Nat->Prop}{S:List Pa}(h:∀p∈S,∀i∈p.s,q i):∀k,∀p∈qP S k,∀i∈p.s,q i
 |0=>by intro p hp;simp[qP]at hp
 |k+1=>by
  intro p hp
  rw[qP,KU,iF]at hp
  rcases hp with hp|hp
  ·exact h p hp
  ·exact NG _ (LA h k) p hp
def bI (L:aD)(k:Nat):aD:=
 let sy:=comes L L.length
 (List.range L.length).map fun i=>if sy.length<2 then(if i∈sy then 1 else 0)else eY ((qP (sy.map (mk1 (often L))) k).take (2*sy.length-2)) i
def cK (L:aD)(k:Nat):(bI L k).length=L.length:=by simp[bI]
def lG (L:aD)(k i:Nat)(h:i<L.length):often (bI L k) i=if(comes L L.length).length<2 then(if i∈comes L L.length then 1 else 0)else eY ((qP ((comes L L.length).map (mk1 (often L))) k).take (2*(comes L L.length).length-2)) i:=by unfold often bI;rw[kE,zI h];rfl
def ah4 {f:Nat->Nat}{sy:aD}{k:Nat}(a:sy.Nodup)(b:2<=sy.length)(hk:sy.length<=2^k)(i:Nat):eY ((qP (sy.map (mk1 f)) k).take (2*sy.length-2)) i<=k:=(yA f sy a b k hk).2.1 i
def rV (L:aD)(k i:Nat)(hk:1<=k)(hs:L.length<=2^k):often (bI L k) i<=k:=by
 by_cases h:i<L.length
 ·rw[lG L k i h];have b:=qZ L L.length;by_cases a:(comes L L.length).length<2
  ·rw[aA a];split<;>omega
  ·rw[aB a];exact ah4 (tO _ _) (by omega) (by omega) i
 ·have:often (bI L k) i=0:=by
   unfold often;rw[fZ (by rw[cK];omega)];rfl
  omega
def Au (A B:List Pa)(i:Nat):eY (A++B) i=eY A i+eY B i:=by
 induction A with
 |nil=>simp[eY]
 |cons a A ih=>simp only[jZ,eY,ih];omega
def Qj {a m:Nat}(i:Nat):∀(l:List Pa) (t:Nat),BdP a m l->eY (l.take t) i<=t*m
 |_,0,_=>by simp[eY]
 |[],t+1,_=>by simp[eY]
 |p::l,t+1,h=>by
  have d:=Qj i l t (fun q b=>h q (by simp[b]))
  have e:=(h p (by simp)).2.2
  have c:p.s.count i<=p.s.length:=O3
  rw[zK,eY,wO,wJ]
  omega
def SK {l:List Pa}{t:Nat}{p:Pa}(h:l[t]? =some p)(i:Nat):eY (l.take (t+1)) i=eY (l.take t) i+p.s.count i:=by rw[jE,h,Au];simp[eY]
def zV {s:aD}{j x:Nat}(h:s[j]? =some x)(i:Nat):(s.take (j+1)).count i=(s.take j).count i+(if i=x then 1 else 0):=by
 rw[jE,h,List.count_append];by_cases e:i=x
 ·subst e;simp
 ·simp[e,Ne.symm e]
end Go.dM
namespace Go.Proofs.YtbpahojchgpdnaaGreatDoor
open Go.RowKit Go.Shelf Go.Lib Go.Sort Go.dM Go.Proofs.Tryz
def xX.pes {B:Nat}{w:aH}{v:aK}{S:List Pe}(h:xX B w v S):vL w v S:=vL.D6 h.row
def fB (w:aH)(g n:Nat)(f:Nat->Nat):Prop:=bA w g 3 n fun i=>V (f i:Nat)
def vY {w:aH}{base g n:Nat}(h:w.ownsRow base 3 1 (.slice (some (U g 0)) n n) n (madeCells (V 0).cells (n*1)).toList):fB w g n (fun _=>0):=by have a:=RA h;refine⟨_,a,by simp[ci],fun i hi=> ?_⟩;simp[ci,hi]
def vH (g off cap k:Nat)(L:aD)(w:aH)(h:gG w g off L)(hL:L.length<=1000)(el:1<=L.length)(aq:∀i,often L i<=1000000)(hk:1<=k)(dj:k<=15)(hs:L.length<=2^k):Calls prog 183 #[.slice (some (U g off)) L.length cap,V (k:Nat)] w fun e w'=>∃gl,e= .returned (.slice (some (U gl 0)) L.length L.length)/\w.heap.size<=gl/\fB w' gl L.length (often (bI L k))/\O w w':=by
 obtain⟨i0,hi,eo,dz,ec⟩:=eD info3;have HI:=hide h;obtain⟨n,hn⟩:=aP L.length;have fn:n<=1000:=by omega
 have fp:1<=n:=by omega
 rw[<-hn];have HN:=hide hn;have az:=hide aq;have cp:=hide (aQ hL (aQ hk (aQ dj hs)));clear h hL el aq hs hn;go_enter func183,ntmps183;go_wp2_with (at_make;refine sD _ rfl _ _ 57 rfl w.heap.size 3 i0 (V 0) 1 underlying57 hi eo dz .i64 .i64 _ _ n rfl rfl rfl rfl (by rw[ec];omega) (by unfold maxLen;omega) (aS _) ?_;intro w1 aa bf);have ad:O w w1:=(aU _ _).grown bf (fun k e=>by cases e);have am:fB w1 w.heap.size n (fun _=>0):=vY aa;have dy:w.heap.size<w1.heap.size:=am.lt;have bk:=Tq g off cap L w1 (HI.o.step ad (fun y=>y)) cp.o.1 (fun i=>by have:=az.o i;omega);rw[<-HN.o]at bk;apply bk.mono;rintro e w2 ⟨v,S,rfl,D,T,F⟩;obtain⟨G,hG⟩:=aP w.heap.size;rw[<-hG]at am dy|-
 have fj:¬G=1000000000000000\/True:= .inr bT;have cw:=am.step F (fun y=>y);have fk:=F.size;have I:=hide cw;have aw:=hide D;have H:=hide (ad.trans F);obtain⟨sy,P⟩:=aP (comes L n);rw[<-P]at T;have A:S.length=sy.length:=by have:=lZ List.length T;simpa using this
 have bb:∀i,i<n->often (bI L k) i=if sy.length<2 then(if i∈sy then 1 else 0)else eY ((qP (sy.map (mk1 (often L))) k).take (2*sy.length-2)) i:=fun i hi=>by
  have hN:=HN.o;rw[P,hN];exact lG L k i (by omega)
 have cj:sy.length<=n:=by rw[P];exact qZ L n
 have cy:sy.Nodup:=by rw[P];exact tO L n
 have ed:=hide cy;have ay:∀i∈sy,i<n:=fun i hi=>by rw[P]at hi;exact((oQ L n i).1 hi).1
 have r:=hide bb;have ab:=hide ay;have al:=hide hG;have hp:=D.pes;have bz:=D.row.lt;clear cy aa bf ad am bk D F cw P bb ay hG;obtain⟨hv,dn⟩|⟨gs,cs,hv,eg,fl,an⟩:=hp
 ·subst dn hv;have W:sy.length=0:=by simpa using A.symm
  go_wp2_with fail;go_ret;refine⟨G,rfl,by have:=al.o;omega,I.o.congr (fun i hi=> ?_),H.o⟩;have m:=r.o i hi;rw[m,aA (by omega),kP W];rfl
 ·subst hv;have ez:=(bz gs rfl).1;clear bz;by_cases h1:S.length=1
  ·obtain⟨p,rfl⟩:=Iz h1;have au:sy.length=1:=(by simpa using A.symm);obtain⟨x,K⟩:∃x,sy=[x]:=by
    match sy,au with
    |[x],_=>exact⟨x,rfl⟩
   have bn:x<n:=ab.o x (by rw[K];simp);have bj:p.s=[x]:=by
    have m:=T;rw[K]at m;simp only[uI,List.map_nil,sN,jX]at m;exact lZ Pa.s m
   obtain⟨a0,a1,_,_⟩:=an 0 (by simp);have av:=aw.o.sy p (by simp);have ax:=av.2.2 0 x (by rw[bj];rfl);have ca:(iI [p] 0).v= .slice (some (U p.g 0)) 1 p.cap:=(by show Value.slice _ p.s.length _=_;rw[bj];rfl);rw[ca]at a1;have cv:(iI [p] 0).c=p.c:=rfl;rw[cv]at a0;obtain⟨pc,Z⟩:∃c:Int,c=(p.c:Int):=⟨_,rfl⟩
   obtain⟨pg,u⟩:=aP p.g;obtain⟨pk,ac⟩:=aP p.cap;rw[<-Z]at a0;rw[<-u,<-ac]at a1;rw[<-u]at ax;have cx:=I.o.cell x bn;have fx:=I.o.free x;have ex:((x:Int)).toNat=x:=(by omega);have px:(0:Int)<=(x:Int):=(by omega);have qx:(x:Int)<(n:Int):=(by omega);have HX:=hide K;have ew:¬gs=G:=(by omega);clear av ca cv Z u ac bj K A au cj;simp only[Nat.zero_mul,dS]at a0 a1;go_wp2_with fail;go_ret;have ep:=al.o;refine⟨G,rfl,by omega,(I.o.set x (V (1:Nat))).congr (fun i hi=> ?_),H.o.aZ (p:=(U G x)) (by show w.heap.size<=G;omega) _⟩;have m:=r.o i hi;have h8:=HX.o;rw[m,h8,aA (show([x]:aD).length<2 by simp)];by_cases cl:i=x
   ·simp[cl]
   ·simp[cl]
  ·by_cases h0:S.length=0
   ·have W:sy.length=0:=(by omega);rw[h0];go_wp2_with fail;go_ret;refine⟨G,rfl,by have:=al.o;omega,I.o.congr (fun i hi=> ?_),H.o⟩;have m:=r.o i hi;rw[m,aA (by omega),kP W];rfl
   ·have h2:2<=S.length:=(by omega);obtain⟨N,hN⟩:=aP S.length;rw[<-hN]at h2 A eg|-
    have en:=hide hN;have z1:¬(N:Int)=1:=(by omega);have z2:¬(N:Int)<2:=(by omega);have fh:N<=1000:=(by omega);have dm:=hide A;have ak:=aw.o;obtain⟨SP,J⟩:=aP (sy.map (mk1 (often L)));have cz:SP.length=N:=(by rw[J,nG];exact A.symm);have cn:BdP 1000000 1 SP:=(by rw[J];exact Kz _ _ _ az.o);have db:2*N-2<=(qP SP k).length:=by
     rw[J,A];exact(yA (often L) sy ed.o (by omega) k (by obtain⟨_,_,_,m⟩:=cp.o;have:=HN.o;omega)).1
    have ap:∀p∈qP SP k,∀i∈p.s,i<n:=fun p hp i hi=>by
     have m:=LA (S:=SP) (q:=fun i=>i<n) (fun p hp i hi=>by
      rw[J]at hp;simp only[sU]at hp;obtain⟨x,K,rfl⟩:=hp;simp only[mk1,qB]at hi;subst hi;exact ab.o i K) k p hp i hi
     exact m
    have eh:=hide ap;rw[<-J]at T r;have bu:=hide cn;have ds:=hide ak.lo;have dr:=hide ak.sy;have dx:=hide ak.pes;have R:=hide cz;clear h1 h0 hN A ak J cz cn ab;go_wp2_with fail;have zb:((N:Int)==1)=false:=(by simp;omega);have zd:decide ((N:Int)<2)=false:=(by simp;omega);first|rw[zb,zd]|rw[zb]|skip
    go_loopg [7,33] k (fun kx u7 u33 wr=>∃(j:Nat) (v:aK) (l:List Pe),u33=V j/\u7=v/\j<=k/\kx=k-j/\Hid (vL wr v l)/\Hid (∀p∈l,EF wr p/\G<p.g)/\Hid (∀b,v.ownBlock=some b->G<b)/\Hid (l.map Pe.pa=qP SP j)/\Hid (O w2 wr));case atStart=>exact⟨0,_,[],rfl,rfl,by omega,rfl, .inl ⟨rfl,rfl⟩,(fun p hp=>by simp at hp:∀p∈([]:List Pe),EF w2 p/\G<p.g),(fun b hb=>(by cases hb):∀b,(Value.slice none 0 0).ownBlock=some b->G<b),rfl,aU _ _⟩
    case round=>
     obtain⟨j,v,l,rfl,rfl,hj,fi,HP,HL,bw,HR,HS⟩:=hrel;by_cases fg:j<k
     ·have cd:(j:Int)<(k:Int):=(by omega);have br:=Y1 bu.o j;have cb:=wX SP j;rw[<-HR.o]at br cb;rw[nG,R.o]at cb;have af:2^j<=32768:=bB (gL (by omega) (show j<=15 by omega)) (by decide);have kp:=Vg u7 l wr HP.o (fun p hp=>(HL.o p hp).1) (by omega) (fun p hp=>by
       obtain⟨b1,b2,b3⟩:=br p.pa (O5 hp);exact⟨bB b1 (bB (OM 1000000 af) (by decide)),b2,bB b3 (by omega)⟩)
      go_wp2_with (first
       |(go_at_call 198;apply kp.mono;rintro e w3 ⟨v3,Q,rfl,d,Y,z⟩)
       |fail)
      have bv:=en.o;have X:=dx.o.step (HS.o.trans z);rw[<-bv]at X;have dp:Q.length<=1000:=by
       have m:=lZ List.length Y;rw[nG,mW,nG]at m;have h8:=wX SP j;rw[<-HR.o,nG,R.o]at h8;omega
      have ce:=Nb (.slice (some (U gs 0)) N cs) v3 S Q w3 X d.pes (by omega) (by omega);have be:∀p∈dU (S++Q),EF w3 p/\G<p.g:=fun p hp=>by
       rcases iF.1 ((XC _ _).1 hp)with hp|hp
       ·exact⟨(dr.o p hp).step (HS.o.trans z) (fun y=>y),by have:=ds.o p hp;omega⟩
       ·exact⟨d.sy p hp,by have:=d.lo p hp;have:=HS.o.size;omega⟩
      have dc:(dU (S++Q)).map Pe.pa=qP SP (j+1):=by
       rw[Fw,sS,T,Y,HR.o];rfl
      have fr:w2.heap.size<=w3.heap.size:=(by have:=HS.o.size;have:=z.size;omega);have ef:=hide ce;have ar:=hide be;have dh:=hide dc;have cg:=hide (HS.o.trans z);clear ce be dc d Y z X bv dp HP HL bw HR HS;go_wp2_with (go_at_call 197;apply ef.o.mono;rintro e w4 ⟨v4,rfl,em,df,bc⟩);go_roundg (k-(j+1));case measure=>omega
      case rel=>exact⟨j+1,v4,dU (S++Q),by go_num,rfl,by omega,rfl,em,(fun p hp=>⟨(ar.o p hp).1.step bc (fun y=>y),(ar.o p hp).2⟩:∀p∈dU (S++Q),EF w4 p/\G<p.g),(fun b hb=>(by have:=df b hb;omega):∀b,v4.ownBlock=some b->G<b),dh.o,cg.o.trans bc⟩
     ·have cd:¬(j:Int)<(k:Int):=(by omega);have dt:j=k:=(by omega);subst dt;have dl:=lZ List.length HR.o;rw[nG]at dl;have db:=db;obtain⟨M,hM⟩:=aP (2*N-2);have dd:M<=l.length:=(by omega);have fm:l.length<=10000:=by
       have h8:=wX SP j;have h7:=R.o;omega
      have fb:2*(N:Int)-2=(M:Int):=(by omega);obtain⟨hv,dk⟩|⟨gr,cr,hv,ej,bs,an⟩:=HP.o
      ·exfalso;subst dk;simp at dd;omega
      ·subst hv;have fe:(M:Int)<=(cr:Int):=(by omega);have ft:=bw.o gr rfl;have HM:=hide hM;obtain⟨ll,ao⟩:=aP l.length;rw[<-ao]at dd ej|-
       have ei:=hide ao;have fo:2<=M:=(by omega);have dq:G<wr.heap.size:=(by have:=HS.o.size;omega);have bx:fB wr G n (fun i=>eY ((l.map Pe.pa).take 0) i):=(I.o.step HS.o (fun y=>y)).congr (fun i hi=>rfl);have cm:=hide bx;have bq:BdP 1000000 (2^j) (l.map Pe.pa):=(by rw[HR.o];exact Y1 bu.o j);have af:2^j<=32768:=bB (gL (by omega) (show j<=15 by omega)) (by decide);have ah:=hide (aQ bq af);obtain⟨w5,cq⟩:=aP wr;rw[<-cq]at cm an HP HL HS bs dq|-
       clear cq bx bq af;go_wp2_with fail;go_loopg [47] M (fun kx u47 wq=>∃t:Nat,u47=V t/\t<=M/\kx=M-t/\Hid (fB wq G n (fun i=>eY ((l.map Pe.pa).take t) i))/\Hid (Step (fun k=>k=G) w5 wq));case atStart=>exact⟨0,rfl,by omega,rfl,cm,aU _ _⟩
       case round=>
        obtain⟨t,rfl,fd,fa,f,a⟩:=hrel;by_cases ey:t<M
        ·have bh:(t:Int)<(M:Int):=(by omega);have ao:=ei.o;have ag:t<l.length:=(by omega);obtain⟨a0,a1,_,_⟩:=an.step a.o (by omega) bs t ag;obtain⟨p,hp⟩:=aP (iI l t);rw[<-hp]at a0 a1;have ai:p∈l:=(by rw[hp];exact G5 ag);have bt:(l.map Pe.pa)[t]? =some p.pa:=by
          rw[kE,hp];unfold iI;rw[bV ag];rfl
         obtain⟨y1,y2⟩:=HL.o p ai;have aj:=y1.step a.o (by omega);have co:p.v= .slice (some (U p.g 0)) p.s.length p.cap:=rfl;rw[co]at a1;obtain⟨pn,ae⟩:=aP p.s.length;obtain⟨pg,u⟩:=aP p.g;obtain⟨pk,ac⟩:=aP p.cap;obtain⟨pc,Z⟩:∃c:Int,c=(p.c:Int):=⟨_,rfl⟩
         rw[<-Z]at a0;rw[<-ae,<-u,<-ac]at a1;have cu:=(ah.o.1 p.pa (O5 ai)).2.2;have eu:pn<=32768:=(by have:=ah.o.2;rw[ae];exact bB cu this);have bp:∀i,eY ((l.map Pe.pa).take t) i<=2000*32768:=fun i=>by
          have m:=Qj i _ t ah.o.1;exact bB m (Nat.mul_le_mul (by omega) ah.o.2)
         have ap:∀s x,p.s[s]? =some x->x<n:=fun s x K=>eh.o p.pa (by rw[<-HR.o];exact O5 ai) x (nZ K);have ct:=hide (aQ bt (aQ ae (aQ u (aQ aj ap))));have e0:((t:Int)).toNat=t:=(by omega);have p0:(0:Int)<=(t:Int):=(by omega);have ev:G<pg:=(by omega);have er:gr<wr.heap.size:=(by have:=a.o.size;omega);have fq:=a.o.size;have eb:=aj.2.1;rw[<-u]at eb;clear hp ai bt y1 y2 aj co ae u ac Z cu ap ao ag;go_wp2_with fail;obtain⟨w6,bm⟩:=aP (wr.alloc (.cells #[V pc, .slice (some (U pg 0)) pn pk] 243));rw[<-bm];have h6:O wr w6:=(by rw[bm];exact(aU _ _).alloc _);have cc:fB w6 G n (fun i=>eY ((l.map Pe.pa).take t) i+(p.s.take 0).count i):=(f.o.step h6 (fun y=>y)).congr (fun i hi=>by simp);have cf:Step (fun k=>k=G) w5 w6:=a.o.trans (h6.mono (fun _ y=>y.elim));obtain⟨q1,q2,q3,q4,q5⟩:=ct.o;have du:=q4.step h6 (fun y=>y);have da:=hide cc;have ch:=hide cf;have fc:=h6.size;clear bm h6 cc cf q1 q2 q3 q4 q5 f a a0 a1;go_loopg [54] pn (fun kx u54 wq=>∃s:Nat,u54=V (s:Nat)/\s<=pn/\kx=pn-s/\Hid (fB wq G n (fun i=>eY ((l.map Pe.pa).take t) i+(p.s.take s).count i))/\Hid (Step (fun k=>k=G) w5 wq)/\Hid (EF wq p));case atStart=>exact⟨0,rfl,by omega,rfl,da,ch,du⟩
         case round=>
          clear da ch;obtain⟨s,rfl,aj,eq,f,a,bl⟩:=hrel;obtain⟨q1,q2,q3,q4,q5⟩:=ct.o;by_cases et:s<pn
          ·have bo:(s:Int)<(pn:Int):=(by omega);obtain⟨x,K⟩:∃x,p.s[s]? =some x:=⟨_,bV (by omega)⟩
           have bn:=q5 s x K;have dg:=bl.o.2.2 s x K;rw[<-q3]at dg;have cG:=f.o.cell x bn;have fG:=f.o.free x;have bp:=bp x;have ea:(p.s.take s).count x<=s:=bB O3 (by rw[dF];omega);obtain⟨c,bg⟩:=aP (eY ((l.map Pe.pa).take t) x+(p.s.take s).count x);dsimp only at cG;rw[<-bg]at cG;have ff:c<=100000000:=(by omega);have ex:((x:Int)).toNat=x:=(by omega);have es:((s:Int)).toNat=s:=(by omega);have px:(0:Int)<=(x:Int):=(by omega);have ps:(0:Int)<=(s:Int):=(by omega);have qx:(x:Int)<(n:Int):=(by omega);have ba:fB (wr.setCell (U G x) (V ((c+1:Nat):Int))) G n (fun i=>eY ((l.map Pe.pa).take t) i+(p.s.take (s+1)).count i):=by
            refine(f.o.set x (V ((c+1:Nat):Int))).congr (fun i hi=> ?_);dsimp only;rw[zV K i];by_cases e:i=x
            ·subst e;simp only[aA];rw[bg];congr 1
            ·simp only[aB e,lN]
           have B:=a.o.setCell (p:=(U G x)) rfl (V ((c+1:Nat):Int));have C:=bl.o.step ((aU (fun k=>k=G) wr).setCell (p:=(U G x)) rfl (V ((c+1:Nat):Int))) (by omega);have ck:(c:Int)+1=((c+1:Nat):Int):=(by omega);rw[<-ck]at ba B C;have ee:=hide B;have dv:=hide C;clear q1 q2 q3 q4 q5 K bg ea B C ck f a bl;go_wp2_with fail;go_roundg (pn-(s+1));case measure=>omega
           case rel=>exact⟨s+1,by go_num,by omega,rfl,ba,ee,dv⟩
          ·have bo:¬(s:Int)<(pn:Int):=(by omega);have ek:s=pn:=(by omega);have de:fB wr G n (fun i=>eY ((l.map Pe.pa).take (t+1)) i):=f.o.congr (fun i hi=>by
            dsimp only;rw[SK q1 i,ek,q2,sI];rfl)
           have HF:=hide de;go_wp2_with fail;go_roundg (M-(t+1));case measure=>omega
           case rel=>exact⟨t+1,by go_num,by omega,rfl,HF,a⟩
        ·have bh:¬(t:Int)<(M:Int):=(by omega);have dw:t=M:=(by omega);subst dw;go_wp2_with fail;go_ret;have ep:=al.o;refine⟨G,rfl,by omega,f.o.congr (fun i hi=> ?_),(H.o.trans HS.o).trans' a.o (fun i hi y=>by omega)⟩;have m:=r.o i hi;have h8:=dm.o;rw[m,aB (by omega),HR.o,HM.o,h8]
end Go.Proofs.YtbpahojchgpdnaaGreatDoor
