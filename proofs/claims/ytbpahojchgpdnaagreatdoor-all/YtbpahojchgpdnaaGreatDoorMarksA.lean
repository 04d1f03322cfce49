import Derived.Test.YtbpahojchgpdnaaGreatDoorSortC
set_option maxRecDepth 20000
set_option maxHeartbeats 4000000
set_option linter.all false
namespace Go.dM
variable {row:aD} {a b g m m' n s t x x':Nat} {w:aH}
structure Mk where
 s:Nat
 x:Nat
 m:Nat
def Mk.v (k:Mk):aK:= .agg #[V (k.s:Nat),V (k.x:Nat),V (k.m:Nat)]
def FR (row:aD)(a:Nat)(k:Mk)(t:Nat):Prop:=a+t<=row.length/\
  ((k.s=often row a/\k.s<=15/\k.x=0/\k.m=0/\t=1)\/
   (k.s=16/\k.m=2/\k.x+3=t/\k.x<4/\0<a/\∀i,i<t->often row (a+i)=often row (a-1))\/
   (k.s=17/\k.m=3/\k.x+3=t/\k.x<8/\∀i,i<t->often row (a+i)=0)\/
   (k.s=18/\k.m=7/\k.x+11=t/\k.x<128/\∀i,i<t->often row (a+i)=0))
def Ap (row:aD)(a same:Nat):Prop:=1<=same/\a+same<=row.length/\(∀i,i<same->often row (a+i)=often row a)/\(a+same=row.length\/often row (a+same)≠often row a)
def Ap.one (h:Ap row a s)(e:Ap row a t):s=t:=by
 obtain⟨j,k,f,d⟩:=h;obtain⟨k1,k2,i,c⟩:=e;rcases zA s t with y|y|y
 ·rcases d with d|d
  ·omega
  ·exact absurd (i s y) d
 ·exact y
 ·rcases c with c|c
  ·omega
  ·exact absurd (f t y) c
def LQ (row:aD)(a:Nat)(k:Mk)(t:Nat):Prop:=∃same,Ap row a same/\
  ((often row a=0/\11<=same/\k=⟨18,t-11,7⟩/\t=min same 138)\/
   (often row a=0/\same<11/\3<=same/\k=⟨17,t-3,3⟩/\t=min same 10)\/
   (often row a≠0/\3<=same/\(0<a/\often row a=often row (a-1))/\k=⟨16,t-3,2⟩/\t=min same 6)\/
   ((same<3\/(often row a≠0/\¬(0<a/\often row a=often row (a-1))))/\k=⟨often row a,0,0⟩/\t=1))
def LQ.one {l:Nat}{k r:Mk}(h:LQ row a k t)(j:LQ row a r l):k=r/\t=l:=by
 obtain⟨s,hs,h⟩:=h;obtain⟨s',p,j⟩:=j;have e:=hs.one p;subst e;rcases h with⟨a1,a2,i,o⟩|⟨a1,a2,i,o,q⟩|⟨a1,a2,i,o,q⟩|⟨a1,a2,i⟩
 ·rcases j with⟨b1,b2,c,d⟩|⟨b1,b2,c,d,f⟩|⟨b1,b2,c,d,f⟩|⟨b1,b2,c⟩
  ·have e:t=l:=o.trans d.symm;subst e;exact⟨i.trans c.symm,rfl⟩
  ·omega
  ·exact absurd a1 b1
  ·rcases b1 with b1|b1
   ·omega
   ·exact absurd a1 b1.1
 ·rcases j with⟨b1,b2,c,d⟩|⟨b1,b2,c,d,f⟩|⟨b1,b2,c,d,f⟩|⟨b1,b2,c⟩
  ·omega
  ·have e:t=l:=q.trans f.symm;subst e;exact⟨o.trans d.symm,rfl⟩
  ·exact absurd a1 b1
  ·rcases b1 with b1|b1
   ·omega
   ·exact absurd a1 b1.1
 ·rcases j with⟨b1,b2,c,d⟩|⟨b1,b2,c,d,f⟩|⟨b1,b2,c,d,f⟩|⟨b1,b2,c⟩
  ·exact absurd b1 a1
  ·exact absurd b1 a1
  ·have e:t=l:=q.trans f.symm;subst e;exact⟨o.trans d.symm,rfl⟩
  ·rcases b1 with b1|b1
   ·omega
   ·exact absurd i b1.2
 ·rcases j with⟨b1,b2,c,d⟩|⟨b1,b2,c,d,f⟩|⟨b1,b2,c,d,f⟩|⟨b1,b2,c⟩
  ·rcases a1 with a1|a1
   ·omega
   ·exact absurd b1 a1.1
  ·rcases a1 with a1|a1
   ·omega
   ·exact absurd b1 a1.1
  ·rcases a1 with a1|a1
   ·omega
   ·exact absurd c a1.2
  ·exact⟨a2.trans b2.symm,i.trans c.symm⟩
def FR.pos {k:Mk}(h:FR row a k t):1<=t:=by rcases h.2 with h|h|h|h<;>omega
def FR.sym {k:Mk}(h:FR row a k t):k.s<=18:=by rcases h.2 with h|h|h|h<;>omega
end Go.dM
namespace Go.Proofs.YtbpahojchgpdnaaGreatDoor
open Go.RowKit Go.Shelf Go.Lib Go.Sort Go.dM Go.Proofs.Tryz
variable {row:aD} {a b g m m' n s t x x':Nat} {w:aH}
def Zl (g off cap:Nat)(L:aD)(w:aH)(h:gG w g off L)(I:1<=L.length)(v:L.length<=1000):Calls prog 209 #[.slice (some (U g off)) L.length cap] w fun e w'=>∃t:Nat,e= .returned (V t)/\1<=t/\t<=L.length/\(∀i,i<t->often L i=often L 0)/\(t=L.length\/often L t≠often L 0)/\O w w':=by
 have F:=h 0 (by omega);obtain⟨l,c⟩:=aP (often L 0);rw[<-c,lN]at F;rw[<-c];obtain⟨n,hn⟩:=aP L.length;rw[<-hn]at I v|-
 have C:=hide (aQ c hn);clear c hn;go_enter func209,ntmps209;go_wp2_with fail;go_loopg [7] n (fun kx u7 wr=>∃k:Nat,u7=V k/\k<=n/\kx=n-k/\Hid (∀i,i<k->often L i=l)/\wr=w);case atStart=>exact⟨0,rfl,by omega,rfl,(fun i hi=>by omega:∀i,i<0->often L i=l),rfl⟩
 case round=>
  obtain⟨k,rfl,hk,H,A,rfl⟩:=hrel;by_cases D:k<n
  ·have j:(k:Int)<(n:Int):=(by omega);have J:=h k (by have:=C.o.2;omega);have d:k=0->often L k=l:=fun e=>by subst e;exact C.o.1.symm
   obtain⟨y,r⟩:=aP (often L k);rw[<-r]at J d;have B:=hide r;have p:=hide d;clear r d;by_cases u:y=l
   ·subst u;go_wp2_with fail;go_roundg (n-(k+1));case measure=>omega
    case rel=>exact⟨k+1,by go_num,by omega,rfl,(fun i hi=>by
     rcases mK i k with f|f
     ·exact A.o i f
     ·have:i=k:=(by omega);rw[this];exact B.o.symm:∀i,i<k+1->often L i=y),rfl⟩
   ·have G:¬(y:Int)=(l:Int):=(by omega);have z:1<=k:=by
     rcases DZ k with f|f
     ·exact absurd (p.o f) u
     ·exact f
    go_wp2_with fail;go_ret;exact⟨k,rfl,z,by omega,A.o, .inr (by rw[<-B.o];exact u),aU _ _⟩
  ·have j:¬(k:Int)<(n:Int):=(by omega);have q:k=n:=(by omega);subst q;go_wp2_with fail;go_ret;exact⟨k,rfl,by omega,by omega,A.o, .inl rfl,aU _ _⟩
def Vq (same:Nat)(w:aH)(A:11<=same)(B:same<=1000):Calls prog 210 #[.agg #[V 18,V 11,V 7],V same] w fun e w'=>∃t:Nat,e= .returned (.tuple #[(⟨18,t-11,7⟩:Mk).v,V t])/\11<=t/\t<=same/\t-11<128/\t=min same 138/\O w w':=by
 have f:=ay9;obtain⟨t,c⟩:∃t:Nat,t=if same<=138 then same else 138:=⟨_,rfl⟩
 have d:=hide (show t=min same 138 by rw[c];split<;>omega);have i:11<=t/\t<=same/\t<=138:=by split at c<;>omega
 have q:min (same:Int) 138=(t:Int):=by rw[c];split<;>omega
 obtain⟨y,r,C⟩:=i;obtain⟨x,j⟩:∃x:Nat,x=t-11:=⟨_,rfl⟩
 have u:(t:Int)-11=(x:Int):=by omega
 have z:IntKind.i64.wrap 128=128:=by rw[dK];omega
 have p:IntKind.i64.wrap (11+128)=139:=by rw[dK];omega
 have l:IntKind.i64.wrap (139-1)=138:=by rw[dK];omega
 have k:=hide j;clear c j;go_enter func210,ntmps210;go_wp2_with fail;go_big_region_o;go_wp2_with fail;refine aY (v:= .tuple #[.agg #[V 18,V x,V 7],V t]) (by simp[results,results210,go_sem]) rfl ⟨t,?_,y,r,by have:=k.o;omega,d.o,(((aU _ _).alloc _).alloc _).drew⟩;rw[<-k.o];rfl
def Tf (same:Nat)(w:aH)(A:3<=same)(B:same<=1000):Calls prog 210 #[.agg #[V 17,V 3,V 3],V same] w fun e w'=>∃t:Nat,e= .returned (.tuple #[(⟨17,t-3,3⟩:Mk).v,V t])/\3<=t/\t<=same/\t-3<8/\t=min same 10/\O w w':=by
 have f:=ay9;obtain⟨t,c⟩:∃t:Nat,t=if same<=10 then same else 10:=⟨_,rfl⟩
 have d:=hide (show t=min same 10 by rw[c];split<;>omega);have i:3<=t/\t<=same/\t<=10:=by split at c<;>omega
 have q:min (same:Int) 10=(t:Int):=by rw[c];split<;>omega
 obtain⟨y,r,C⟩:=i;obtain⟨x,j⟩:∃x:Nat,x=t-3:=⟨_,rfl⟩
 have u:(t:Int)-3=(x:Int):=by omega
 have z:IntKind.i64.wrap 8=8:=by rw[dK];omega
 have p:IntKind.i64.wrap (3+8)=11:=by rw[dK];omega
 have l:IntKind.i64.wrap (11-1)=10:=by rw[dK];omega
 have k:=hide j;clear c j;go_enter func210,ntmps210;go_wp2_with fail;go_big_region_o;go_wp2_with fail;refine aY (v:= .tuple #[.agg #[V 17,V x,V 3],V t]) (by simp[results,results210,go_sem]) rfl ⟨t,?_,y,r,by have:=k.o;omega,d.o,(((aU _ _).alloc _).alloc _).drew⟩;rw[<-k.o];rfl
def Tt (same:Nat)(w:aH)(A:3<=same)(B:same<=1000):Calls prog 210 #[.agg #[V 16,V 3,V 2],V same] w fun e w'=>∃t:Nat,e= .returned (.tuple #[(⟨16,t-3,2⟩:Mk).v,V t])/\3<=t/\t<=same/\t-3<4/\t=min same 6/\O w w':=by
 have f:=ay9;obtain⟨t,c⟩:∃t:Nat,t=if same<=6 then same else 6:=⟨_,rfl⟩
 have d:=hide (show t=min same 6 by rw[c];split<;>omega);have i:3<=t/\t<=same/\t<=6:=by split at c<;>omega
 have q:min (same:Int) 6=(t:Int):=by rw[c];split<;>omega
 obtain⟨y,r,C⟩:=i;obtain⟨x,j⟩:∃x:Nat,x=t-3:=⟨_,rfl⟩
 have u:(t:Int)-3=(x:Int):=by omega
 have z:IntKind.i64.wrap 4=4:=by rw[dK];omega
 have p:IntKind.i64.wrap (3+4)=7:=by rw[dK];omega
 have l:IntKind.i64.wrap (7-1)=6:=by rw[dK];omega
 have k:=hide j;clear c j;go_enter func210,ntmps210;go_wp2_with fail;go_big_region_o;go_wp2_with fail;refine aY (v:= .tuple #[.agg #[V 16,V x,V 2],V t]) (by simp[results,results210,go_sem]) rfl ⟨t,?_,y,r,by have:=k.o;omega,d.o,(((aU _ _).alloc _).alloc _).drew⟩;rw[<-k.o];rfl
def gG.drop {off:Nat}{L:aD}(h:gG w g off L)(a:Nat):gG w g (off+a) (L.drop a):=fun i hi=>by
 rw[dX]at hi
 have:=h (a+i) (by omega)
 rw[<-iV]at this
 rw[this]
 unfold often
 rw[kM]
def yH (L:aD)(a i:Nat):often (L.drop a) i=often L (a+i):=by unfold often;rw[kM]
def Ao {R d:Nat}{a b c:aK}(h:w.heap[R]? =some (.cells #[a,b,c] d (0,0))):(w.cell? (U R 0)=some a/\w.cell? (U R 1)=some b/\w.cell? (U R 2)=some c)/\w.frozen? (U R 0)=false/\w.frozen? (U R 1)=false/\w.frozen? (U R 2)=false:=⟨⟨aC h 0 _ rfl,aC h 1 _ rfl,aC h 2 _ rfl⟩,aJ h 0,aJ h 1,aJ h 2⟩
def Ey {w1:aH}{R:Nat}(h:O w w1)(d:w.heap.size<=R)(a b c:aK):O w (((w1.setCell (U R 0) a).setCell (U R 1) b).setCell (U R 2) c):=((h.aZ d _).aZ d _).aZ d _
def Ll (g off cap a:Nat)(L:aD)(w:aH)(h:gG w g off L)(ha:a<L.length)(hL:L.length<=1000)(ae:L.length<=cap)(ak:∀i,often L i<=15)(hO:bL w):Calls prog 199 #[.slice (some (U g off)) L.length cap,V a] w fun e w'=>∃(k:Mk) (t:Nat),e= .returned (.tuple #[k.v,V t])/\(FR L a k t/\LQ L a k t)/\O w w':=by
 have bb:=ay9;have Q:=Zl g (off+a) (cap-a) (L.drop a) (w.alloc (.cells #[V 0,V 0,V 0] 175)) ((h.step ((aU (fun _=>False) w).alloc _) (fun y=>y)).drop a) (by rw[dX];omega) (by rw[dX];omega);rw[dX]at Q;obtain⟨n,hn⟩:=aP L.length;rw[<-hn]at Q ha hL ae|-
 have ag:=hide Q;have HI:=hide h;have HO:=hide hO;have K:=hide hn;have ao:=hide ak;have bf:(a:Int)<=(n:Int):=by omega
 have ba:(a:Int)<=(cap:Int):=by omega
 have bg:¬(cap:Int)=(a:Int):=by omega
 have be:¬cap=a:=by omega
 have aw:((n:Int)-(a:Int)).toNat=n-a:=by omega
 have ap:((cap:Int)-(a:Int)).toNat=cap-a:=by omega
 have bn:((a:Int)).toNat=a:=by omega
 clear h hO Q hn ak;go_enter func199,ntmps199;go_upto_region 3 with(X 209;apply ag.o.mono;rintro e w1 ⟨t,rfl,au,bu,ah,Y,ac⟩);have ad:w1.heap[w.heap.size]? =some (.cells #[V 0,V 0,V 0] 175 (0,0)):=ac.at_ (aR _ _) (fun y=>y);have I:=((aU (fun _=>False) w).alloc (.cells #[V 0,V 0,V 0] 175)).trans ac;obtain⟨om,aq,oa⟩:=HO.o.step I (fun _ _ y=>y)|>fun o=>(⟨o.many,o.few,o.again⟩:_/\_/\_)
 obtain⟨bp,bl,bo⟩:=om;obtain⟨bj,bt,br⟩:=aq;obtain⟨bk,bm,bq⟩:=oa;have an:=HI.o.step I (fun y=>y);have S:=K.o;have ca:=an a (by omega);have G:∀i,i<t->often L (a+i)=often L a:=fun i hi=>by
  have:=ah i hi;rw[yH,yH,lN]at this;exact this
 have B:=hide (show Ap L a t from⟨au,by have:=K.o;omega,G,by
  rw[yH,yH,lN]at Y;rcases Y with y|y
  ·exact .inl (by have:=K.o;omega)
  ·exact .inr y⟩)
 clear Y;have H:=ao.o a;obtain⟨x,hx⟩:=aP (often L a);rw[<-hx]at ca G H;have l:=hide I;have HT:=hide G;have q:=hide hx;have p:=hide ad;have z0:(0:Int)<=(a:Int):=by omega
 have z1:(a:Int)<(n:Int):=by omega
 have ax:=aO ad;obtain⟨R,hR⟩:=aP w.heap.size;rw[<-hR]at p ax|-
 have HR:=hide hR;clear ac I an S ah G hx ag ad hR aw ap bf ba bg be;have A:w.heap.size<=R:=by rw[HR.o];omega
 by_cases x0:x=0
 ·subst x0;by_cases al:11<=t
  ·have am:(11:Int)<=(t:Int):=(by omega);have aj:(t:Int)>=11:=(by omega);go_wp2_with fail;apply(Vq t w1 al (by omega)).mono;rintro e w2 ⟨r,rfl,b1,b2,W,T,d⟩;have B4:=hide T;clear T;have u:=d.at_ p.o (fun y=>y);obtain⟨⟨r0,r1,D⟩,f0,f1,f2⟩:=Ao (u);have j:=Ey (l.o.trans d) A (V 18) (V ((r-11:Nat):Int)) (V 7);obtain⟨P,c⟩:=aP (r-11);rw[<-c]at W j|-
   unfold Mk.v;have N:=hide c;have f:=hide j;clear d u c j;go_wp2_with fail;refine aY (v:= .tuple #[.agg #[V 18,V P,V 7],V r]) (by simp[results,results199,go_sem,r0,r1,D]) rfl ⟨⟨18,P,7⟩,r,rfl,?_,f.o⟩;have S:=K.o;have c:=N.o;exact⟨⟨by omega, .inr (.inr (.inr ⟨rfl,rfl,by show P+11=r;omega,W,fun i hi=>HT.o i (by omega)⟩))⟩,t,B.o, .inl ⟨q.o.symm,al,by rw[c],B4.o⟩⟩
  ·have am:¬(11:Int)<=(t:Int):=(by omega);have aj:¬(t:Int)>=11:=(by omega);by_cases t3:3<=t
   ·have J:(3:Int)<=(t:Int):=(by omega);have M:(t:Int)>=3:=(by omega);go_wp2_with fail;apply(Tf t w1 t3 (by omega)).mono;rintro e w2 ⟨r,rfl,b1,b2,W,T,d⟩;have B4:=hide T;clear T;have u:=d.at_ p.o (fun y=>y);obtain⟨⟨r0,r1,D⟩,f0,f1,f2⟩:=Ao (u);have j:=Ey (l.o.trans d) A (V 17) (V ((r-3:Nat):Int)) (V 3);obtain⟨P,c⟩:=aP (r-3);rw[<-c]at W j|-
    unfold Mk.v;have N:=hide c;have f:=hide j;clear d u c j;go_wp2_with fail;refine aY (v:= .tuple #[.agg #[V 17,V P,V 3],V r]) (by simp[results,results199,go_sem,r0,r1,D]) rfl ⟨⟨17,P,3⟩,r,rfl,?_,f.o⟩;have S:=K.o;have c:=N.o;exact⟨⟨by omega, .inr (.inr (.inl ⟨rfl,rfl,by show P+3=r;omega,W,fun i hi=>HT.o i (by omega)⟩))⟩,t,B.o, .inr (.inl ⟨q.o.symm,by omega,t3,by rw[c],B4.o⟩)⟩
   ·have J:¬(3:Int)<=(t:Int):=(by omega);have M:¬(t:Int)>=3:=(by omega);have ai:decide ((t:Int)>=3)=false:=fT M;have af:decide ((3:Int)<=(t:Int))=false:=fT J;by_cases a0:0<a
    ·have C:(0:Int)<(a:Int):=(by omega);have F:(a:Int)>0:=(by omega);have ab:decide ((a:Int)>0)=true:=eU F;have aa:decide ((0:Int)<(a:Int))=true:=eU C;obtain⟨m,hm⟩:=aP (a-1);have cm:=HI.o.step l.o (fun y=>y) m (by have:=K.o;omega);obtain⟨y,hy⟩:=aP (often L m);rw[<-hy]at cm;have wm:IntKind.i64.wrap ((a:Int)-1)=(m:Int):=(by rw[dK];omega);have av:(a:Int)-1=(m:Int):=(by omega);have bh:(0:Int)<=(m:Int):=(by omega);have ay:(m:Int)<(n:Int):=(by omega);have az:((m:Int)).toNat=m:=(by omega);have HM:=hide hm;have Z:=hide hy;clear hm hy;by_cases xy:y=0;focus
      subst xy
     rotate_left;focus
      have ar:¬(0:Int)=(y:Int):=(by omega);have bc:((0:Int)==(y:Int))=false:=by simp;omega
     all_goals
      obtain⟨⟨r0,r1,D⟩,f0,f1,f2⟩:=Ao p.o;have f:=hide (Ey l.o A (V 0) (V 0) (V 0));go_wp2_with fail;go_big_region_o;go_wp2_with fail;refine aY (v:= .tuple #[.agg #[V 0,V 0,V 0],V 1]) (by simp[results,results199,go_sem,r0,r1,D]) rfl ⟨⟨0,0,0⟩,1,rfl,?_,f.o.drew⟩;have S:=K.o;exact⟨⟨by omega, .inl ⟨q.o,by decide,rfl,rfl,rfl⟩⟩,t,B.o, .inr (.inr (.inr ⟨.inl (by omega),by rw[<-q.o],rfl⟩))⟩
    ·have C:¬(0:Int)<(a:Int):=(by omega);have F:¬(a:Int)>0:=(by omega);have ab:decide ((a:Int)>0)=false:=fT F;have aa:decide ((0:Int)<(a:Int))=false:=fT C;obtain⟨⟨r0,r1,D⟩,f0,f1,f2⟩:=Ao p.o;have f:=hide (Ey l.o A (V 0) (V 0) (V 0));go_wp2_with fail;go_big_region_o;go_wp2_with fail;refine aY (v:= .tuple #[.agg #[V 0,V 0,V 0],V 1]) (by simp[results,results199,go_sem,r0,r1,D]) rfl ⟨⟨0,0,0⟩,1,rfl,?_,f.o.drew⟩;have S:=K.o;exact⟨⟨by omega, .inl ⟨q.o,by decide,rfl,rfl,rfl⟩⟩,t,B.o, .inr (.inr (.inr ⟨.inl (by omega),by rw[<-q.o],rfl⟩))⟩
 ·have bs:¬(x:Int)=0:=by omega
  by_cases a0:0<a
  ·have C:(0:Int)<(a:Int):=(by omega);have F:(a:Int)>0:=(by omega);have ab:decide ((a:Int)>0)=true:=eU F;have aa:decide ((0:Int)<(a:Int))=true:=eU C;obtain⟨m,hm⟩:=aP (a-1);have cm:=HI.o.step l.o (fun y=>y) m (by have:=K.o;omega);obtain⟨y,hy⟩:=aP (often L m);rw[<-hy]at cm;have wm:IntKind.i64.wrap ((a:Int)-1)=(m:Int):=(by rw[dK];omega);have av:(a:Int)-1=(m:Int):=(by omega);have bh:(0:Int)<=(m:Int):=(by omega);have ay:(m:Int)<(n:Int):=(by omega);have az:((m:Int)).toNat=m:=(by omega);have HM:=hide hm;have Z:=hide hy;clear hm hy;by_cases xy:x=y
   ·subst xy;have HY:=Z;by_cases t3:3<=t
    ·have J:(3:Int)<=(t:Int):=(by omega);have M:(t:Int)>=3:=(by omega);have ai:decide ((t:Int)>=3)=true:=eU M;have af:decide ((3:Int)<=(t:Int))=true:=eU J;go_wp2_with fail;go_big_region_o;go_wp2_with fail;apply(Tt t w1.drew t3 (by omega)).mono;rintro e w2 ⟨r,rfl,b1,b2,W,T,d⟩;have B4:=hide T;clear T;have u:=d.at_ p.o (fun y=>y);obtain⟨⟨r0,r1,D⟩,f0,f1,f2⟩:=Ao (u);have j:=Ey (l.o.drew.trans d) A (V 16) (V ((r-3:Nat):Int)) (V 2);obtain⟨P,c⟩:=aP (r-3);rw[<-c]at W j|-
     unfold Mk.v;have N:=hide c;have f:=hide j;clear d u c j;go_wp2_with fail;refine aY (v:= .tuple #[.agg #[V 16,V P,V 2],V r]) (by simp[results,results199,go_sem,r0,r1,D]) rfl ⟨⟨16,P,2⟩,r,rfl,?_,f.o⟩;have S:=K.o;have c:=N.o;have hm:=HM.o;refine⟨⟨by omega, .inr (.inl ⟨rfl,rfl,by show P+3=r;omega,W,by omega,fun i hi=>by
      rw[HT.o i (by omega),show a-1=m by omega];exact HY.o⟩)⟩,t,B.o, .inr (.inr (.inl ⟨by rw[<-q.o];exact x0,t3,⟨a0,?_⟩,by rw[c],B4.o⟩))⟩
     rw[show a-1=m by omega,<-q.o];exact HY.o
    ·have J:¬(3:Int)<=(t:Int):=(by omega);have M:¬(t:Int)>=3:=(by omega);have ai:decide ((t:Int)>=3)=false:=fT M;have af:decide ((3:Int)<=(t:Int))=false:=fT J;obtain⟨⟨r0,r1,D⟩,f0,f1,f2⟩:=Ao p.o;have f:=hide (Ey l.o A (V (x:Nat)) (V 0) (V 0));go_wp2_with fail;go_big_region_o;go_wp2_with fail;refine aY (v:= .tuple #[.agg #[V (x:Nat),V 0,V 0],V 1]) (by simp[results,results199,go_sem,r0,r1,D]) rfl ⟨⟨x,0,0⟩,1,rfl,?_,f.o.drew⟩;have S:=K.o;exact⟨⟨by omega, .inl ⟨q.o,H,rfl,rfl,rfl⟩⟩,t,B.o, .inr (.inr (.inr ⟨.inl (by omega),by rw[<-q.o],rfl⟩))⟩
   ·have ar:¬(x:Int)=(y:Int):=(by omega);have bc:((x:Int)==(y:Int))=false:=(by simp;omega);obtain⟨⟨r0,r1,D⟩,f0,f1,f2⟩:=Ao p.o;have f:=hide (Ey l.o A (V (x:Nat)) (V 0) (V 0));go_wp2_with fail;go_big_region_o;go_wp2_with fail;refine aY (v:= .tuple #[.agg #[V (x:Nat),V 0,V 0],V 1]) (by simp[results,results199,go_sem,r0,r1,D]) rfl ⟨⟨x,0,0⟩,1,rfl,?_,f.o.drew⟩;have S:=K.o;exact⟨⟨by omega, .inl ⟨q.o,H,rfl,rfl,rfl⟩⟩,t,B.o, .inr (.inr (.inr ⟨.inr ⟨by rw[<-q.o];exact x0,fun z=>xy (by rw[q.o,Z.o,HM.o];exact z.2)⟩,by rw[<-q.o],rfl⟩))⟩
  ·have C:¬(0:Int)<(a:Int):=(by omega);have F:¬(a:Int)>0:=(by omega);have ab:decide ((a:Int)>0)=false:=fT F;have aa:decide ((0:Int)<(a:Int))=false:=fT C;obtain⟨⟨r0,r1,D⟩,f0,f1,f2⟩:=Ao p.o;have f:=hide (Ey l.o A (V (x:Nat)) (V 0) (V 0));go_wp2_with fail;go_big_region_o;go_wp2_with fail;refine aY (v:= .tuple #[.agg #[V (x:Nat),V 0,V 0],V 1]) (by simp[results,results199,go_sem,r0,r1,D]) rfl ⟨⟨x,0,0⟩,1,rfl,?_,f.o.drew⟩;have S:=K.o;exact⟨⟨by omega, .inl ⟨q.o,H,rfl,rfl,rfl⟩⟩,t,B.o, .inr (.inr (.inr ⟨.inr ⟨by rw[<-q.o];exact x0,fun z=>a0 z.1⟩,by rw[<-q.o],rfl⟩))⟩
end Go.Proofs.YtbpahojchgpdnaaGreatDoor
namespace Go.dM
variable {row:aD} {a b g m m' n s t x x':Nat} {w:aH}
inductive gH (row:aD):Nat->List Mk->Nat->Prop
 |nil (a:Nat):gH row a [] a
 |cons (a:Nat) (k:Mk) (t:Nat) (l:List Mk) (b:Nat) (h:FR row a k t) (hi:LQ row a k t) (r:gH row (a+t) l b):gH row a (k::l) b
def gH.snoc {k:Mk}{l:List Mk}(h:gH row a l b)(hk:FR row b k t)(hi:LQ row b k t):gH row a (l++[k]) (b+t):=by
 induction h with
 |nil a=>exact .cons a k t [] _ hk hi (.nil _)
 |cons a f e l b d c r ih=>exact .cons a f e _ _ d c (ih hk hi)
def gH.nil_eq (h:gH row a [] b):a=b:=by cases h;rfl
def gH.count {l:List Mk}(h:gH row a l b):a+l.length<=b:=by
 induction h with
 |nil a=>simp
 |cons a k t l b hk hi r ih=>have:=hk.pos;simp;omega
def gH.sym {l:List Mk}(h:gH row a l b):∀k∈l,k.s<=18/\k.x<2^k.m/\k.m<=7:=by
 induction h with
 |nil a=>intro k hk;simp at hk
 |cons a f t l b hk hi r ih=>
  intro k e;rcases fE.1 e with rfl|e
  ·refine⟨hk.sym,?_⟩;rcases hk.2 with⟨_,_,d,c,_⟩|⟨_,d,_,c,_⟩|⟨_,d,_,c,_⟩|⟨_,d,_,c,_⟩
   ·rw[d,c];decide
   ·rw[d];exact⟨c,by omega⟩
   ·rw[d];exact⟨c,by omega⟩
   ·rw[d];exact⟨c,by omega⟩
  ·exact ih k e
end Go.dM
namespace Go.Proofs.YtbpahojchgpdnaaGreatDoor
open Go.RowKit Go.Shelf Go.Lib Go.Sort Go.dM Go.Proofs.Tryz
variable {row:aD} {a b g m m' n s t x x':Nat} {w:aH}
def nW:List Mk->List aK
 |[]=>[]
 |k::l=>V (k.s:Nat)::V (k.x:Nat)::V (k.m:Nat)::nW l
def F3:∀l r:List Mk,nW (l++r)=nW l++nW r
 |[],r=>rfl
 |p::l,r=>by simp[nW,F3 l r]
def SC:∀(l:List Mk) (u:aK),u∈nW l->u.oneCell'=true
 |[],u,h=>by simp[nW]at h
 |p::l,u,h=>by
  simp only[nW,fE]at h
  rcases h with rfl|rfl|rfl|h
  ·rfl
  ·rfl
  ·rfl
  ·exact SC l u h
def aw8:(prog.info? 175).map (fun i=>(i.zero,i.size,i.bytes))=some (some (.agg #[V 0,V 0,V 0]),3,24):=by kernel_rfl
def ah1:prog.underlying 229=some (.slice 175):=by kernel_rfl
structure au3 (B:Nat)(w wr:aH)(v:aK)(l:List Mk):Prop where
 row:wr.ownsRow B 175 3 v l.length (nW l)
 st:O w wr
def Br (g off cap:Nat)(L:aD)(w:aH)(h:gG w g off L)(hL:L.length<=1000)(d:L.length<=cap)(D:∀i,often L i<=15)(hO:bL w):Calls prog 185 #[.slice (some (U g off)) L.length cap] w fun e w'=>∃v l,e= .returned v/\au3 w.heap.size w w' v l/\gH L 0 l L.length:=by
 obtain⟨i0,hi,X,S,z⟩:=eD aw8;have P:=fun(a:Nat) (Y:a<L.length) (wr:aH) (hs:O w wr)=>Ll g off cap a L wr (h.step hs (fun y=>y)) Y hL d D (hO.step hs (fun _ _ y=>y));obtain⟨n,hn⟩:=aP L.length;rw[<-hn]at P hL|-
 have HM:=hide P;have M:=hide hn;obtain⟨B,Q⟩:=aP w.heap.size;rw[<-Q];have HB:=hide Q;clear h P hO D hn d Q;go_enter func185,ntmps185;go_wp2_with fail;go_loopg [3,4] n (fun kx u3 u4 wr=>∃(a:Nat) (v:aK) (l:List Mk),u4=V a/\u3=v/\a<=n/\kx=n-a/\Hid (au3 B w wr v l)/\Hid (gH L 0 l a)/\B<=wr.heap.size);case atStart=>exact⟨0,_,[],rfl,rfl,by omega,rfl,⟨⟨rfl, .inl ⟨rfl,rfl⟩⟩,aU _ _⟩, .nil 0,by have:=HB.o;omega⟩
 case round=>
  obtain⟨a,v,l,rfl,rfl,Y,ad,J,K,ai⟩:=hrel;by_cases N:a<n
  ·have C:(a:Int)<(n:Int):=(by omega);have R:=HM.o a N wr J.o.st;have A:=hide R;have aa:=K.o.count;go_wp2_with (first
    |(go_at_call 199;apply A.o.mono;rintro e w1 ⟨k,t,rfl,⟨hk,I⟩,c⟩;have T:=hide I;clear I;unfold Mk.v;have F:=tV J.o.row c (fun _ _ y=>y);have ae:=c.size;have ag:=hk.pos;have ac:=hk.1;have HK:=hide hk;have f:=hide (J.o.st.trans c);have p:=hide F;clear hk c F A)
    |(at_builtin;refine fQ _ rfl _ _ 229 rfl B 175 i0 _ 3 24 ah1 hi X S z rfl (by decide) _ l.length (nW l) rfl (by exact(p.o.alloc _).alloc _) ⟨w1.heap.size+1,0,none⟩ 1 1 (nW [k]) rfl rfl ?c1 (SC _) (by decide) ?c3 ?c4 ?c5 ?_))
   case c1=>
    intro i u hu;have Z:=aR (w1.alloc (.cells #[V k.s,V k.x,V k.m] 175)) (.cells #[V k.s,V k.x,V k.m] 175);rw[oJ]at Z;have h8:=aC Z i u (by rw[<-hu];simp[nW]);rw[show(Addr.add ⟨w1.heap.size+1,0,none⟩ i)=⟨w1.heap.size+1,i,none⟩ by simp[Addr.add];omega];exact h8
   case c3=>unfold maxLen;omega
   case c4=>omega
   case c5=>simp;omega
   intro g' G w5 j q hg;have r:O w1 ((w1.alloc (.cells #[V k.s,V k.x,V k.m] 175)).alloc (.cells #[V k.s,V k.x,V k.m] 175)):=((aU _ _).alloc _).alloc _;have H:O w w5:=(f.o.trans r).grown q (fun b e=> .inr (by
    have h1:=(p.o.lt b e).1;have h2:=HB.o;omega))
   have aj:=q.size;have ab:=r.size;have N1:Hid (au3 B w w5 (.slice (some (U g' 0)) (l.length+1) G) (l++[k])):=⟨by rw[aN,F3];exact j,H⟩
   have N2:Hid (gH L 0 (l++[k]) (a+t)):=K.o.snoc HK.o T.o;have af:a+t<=n:=(by have:=M.o;omega);have ah:IntKind.i64.wrap ((a:Int)+(t:Int))=((a+t:Nat):Int):=(by rw[dK];omega);clear j q hg r H f p HK J K;go_wp2_with fail;go_roundg (n-(a+t));case measure=>omega
   case rel=>exact⟨a+t,_,l++[k],by first|rfl|go_num,rfl,by omega,rfl,N1,N2,by omega⟩
  ·have C:¬(a:Int)<(n:Int):=(by omega);have W:a=n:=(by omega);subst W;go_wp2_with fail;go_ret;exact⟨_,rfl,l,J.o,K.o⟩
def YP (g off cap c:Nat)(L:aD)(w:aH)(h:gG w g off L)(C:c<=L.length)(P:L.length<=1000)(k:L.length<=cap):Calls prog 184 #[.slice (some (U g off)) L.length cap,V c] w fun e w'=>∃n:Nat,e= .returned (.slice (some (U g off)) n cap)/\c<=n/\n<=L.length/\(∀i,n<=i->often L i=0)/\(c<n->often L (n-1)≠0)/\O w w':=by
 have J:=hide h;obtain⟨N,r⟩:=aP L.length;rw[<-r]at C P k|-
 have F:=hide r;clear h r;go_enter func184,ntmps184;go_wp2_with fail;go_loopg [5] N (fun kx u5 wr=>∃n:Nat,u5=V (n:Nat)/\c<=n/\n<=N/\kx=n/\Hid (∀i,n<=i->often L i=0)/\Hid (O w wr));case atStart=>exact⟨N,rfl,C,by omega,rfl,(fun i hi=>(by unfold often;rw[fZ (by have:=F.o;omega)];rfl):∀i,N<=i->often L i=0),aU _ _⟩
 case round=>
  obtain⟨n,rfl,A,G,M,z,p⟩:=hrel;by_cases u:c<n
  ·have d:(c:Int)<(n:Int):=(by omega);have j:decide ((n:Int)>(c:Int))=true:=eU d;have f:decide ((c:Int)<(n:Int))=true:=eU d;obtain⟨m,B⟩:=aP (n-1);have S:=J.o.step p.o (fun y=>y) m (by have:=F.o;omega);obtain⟨y,v⟩:=aP (often L m);rw[<-v]at S;have W:IntKind.i64.wrap ((n:Int)-1)=(m:Int):=(by rw[dK];omega);have T:(0:Int)<=(m:Int):=(by omega);have Q:(m:Int)<(N:Int):=(by omega);have R:((m:Int)).toNat=m:=(by omega);have q:=hide (aQ B v);clear B v;by_cases l:y=0
   ·subst l;go_wp2_with fail;go_roundg m;case measure=>have:=q.o.1;omega
    case rel=>
     obtain⟨X,K⟩:=q.o;exact⟨m,by first|rfl|go_num,by omega,by omega,rfl,(fun i hi=>(by
      rcases mK i n with D|D
      ·rw[show i=m by omega];exact K.symm
      ·exact z.o i D):∀i,m<=i->often L i=0),p.o⟩
   ·have H:¬(y:Int)=0:=(by omega);have I:((y:Int)==0)=false:=(by simp;omega);go_wp2_with fail;go_ret;exact⟨n,rfl,A,G,z.o,fun _=>by rw[<-q.o.1,<-q.o.2];exact l,p.o⟩
  ·have d:¬(c:Int)<(n:Int):=(by omega);have j:decide ((n:Int)>(c:Int))=false:=fT d;have f:decide ((c:Int)<(n:Int))=false:=fT d;go_wp2_with fail;go_ret;exact⟨n,rfl,A,G,z.o,fun y=>absurd y u,p.o⟩
def Eb:prog.underlying 216=some (.array 19 3):=by kernel_rfl
def ak4:(prog.info? 216).map (·.size)=some 19:=by kernel_rfl
def Sg (d:List aK)(k:Nat)(v:aK)(hk:k<19)(e:d[k]? =some v)(w:aH):(Instr.index 216 (.agg d.toArray) (V k)).run prog w= .ok v w:=by
 obtain⟨j,hi,_,c,_⟩:=eD info3;have i:(Go.sizeOf 3).run prog w= .ok 1 w:=by
  simp[Go.sizeOf,typeInfo,hi,c]
 have f:(0:Int)<=(k:Int)/\(k:Int)<(19:Nat):=by omega
 simp[Instr.index,x9 Eb,asIntOf,f,i,part,e,go_sem];intro h;omega
def aw2:∀k,k<19->bP[k]?.getD 0<19:=by decide
def Ni (g off cap:Nat)(L:aD)(w:aH)(h:gG w g off L)(hl:L.length=19)(hO:bL w)(ag:g<w.heap.size):Calls prog 187 #[.slice (some (U g off)) 19 cap] w fun e w'=>∃R,e= .returned (.slice (some (U R 0)) 19 19)/\w.heap.size<=R/\fB w' R 19 (fun i=>often L (bP[i]?.getD 0))/\O w w':=by
 obtain⟨i0,hi,T,Q,ab⟩:=eD info3;go_enter func187,ntmps187;obtain⟨B,D⟩:∃B:List aK,B=bP.map fun x=>V (x:Nat):=⟨_,rfl⟩
 have A:B.length=19:=by rw[D];rfl
 have J:∀k,k<19->B[k]? =some (V ((bP[k]?.getD 0:Nat):Int)):=fun k hk=>by
  rw[D,kE,bV (show k<bP.length from hk)];rfl
 have aa:(prog.info? 216).map (·.size)=some B.length:=by rw[A];exact ak4
 have Y:=hide A;clear D A;go_wp2_with (first
  |(at_make;refine sD _ rfl _ _ 57 rfl w.heap.size 3 i0 (V 0) 1 underlying57 hi T Q .i64 .i64 _ _ 19 rfl rfl rfl rfl (by rw[ab];omega) (by unfold maxLen;omega) (aS _) ?_;intro w1 d q;have c:=(aU (fun _=>False) w).grown q (fun k e=>by cases e);have F:=hO.step c (fun _ _ y=>y))
  |(refine wpList_load_mid rfl 216 (.global 0) rfl 0 0 rfl B (.array 19 3) ?rg Eb rfl aa ?_))
 case rg=>
  intro j v Z;have z:=(BD.1 Z).1;rw[Y.o]at z;rw[J j z]at Z;rw[dS,<-Z];exact F.order j z
 have C:fB w1 w.heap.size 19 (fun _=>0):=vY d;obtain⟨R,W⟩:=aP w.heap.size;rw[<-W]at C|-
 have u:=hide c;have H:=hide (show fB w1 R 19 (fun i=>if i<0 then often L (bP[i]?.getD 0)else 0) from C.congr (fun i hi=>rfl));have HR:=hide W;have ae:¬g=R:=by omega
 clear d q c F C W;go_wp2_with fail;go_loopg [8] 19 (fun kx u8 wr=>∃k:Nat,u8=V (k:Nat)/\k<=19/\kx=19-k/\Hid (fB wr R 19 (fun i=>if i<k then often L (bP[i]?.getD 0)else 0))/\Hid (O w wr));case atStart=>exact⟨0,rfl,by omega,rfl,H,u⟩
 case round=>
  clear H u;obtain⟨k,rfl,hk,af,G,K⟩:=hrel;by_cases l:k<19
  ·have I:(k:Int)<19:=(by omega);obtain⟨s,hs⟩:=aP (bP[k]?.getD 0);have ac:s<19:=(by rw[hs];exact aw2 k l);have X:=h.step K.o (fun y=>y) s (by omega);have cR:=G.o.cell k l;have fR:=G.o.free k;obtain⟨y,P⟩:=aP (often L s);rw[<-P]at X;have ad:=Sg B k (V (s:Nat)) l (by rw[hs];exact J k l);have ek:((k:Int)).toNat=k:=(by omega);have pk:(0:Int)<=(k:Int):=(by omega);have es:((s:Int)).toNat=s:=(by omega);have ps:(0:Int)<=(s:Int):=(by omega);have qs:(s:Int)<19:=(by omega);have r:fB (wr.setCell (U R k) (V (y:Nat))) R 19 (fun i=>if i<k+1 then often L (bP[i]?.getD 0)else 0):=by
    refine(G.o.set k (V (y:Nat))).congr (fun i hi=> ?_);dsimp only;by_cases e:i=k
    ·subst e;rw[aA rfl,aA (by omega),P,hs]
    ·rw[aB e];by_cases e2:i<k
     ·rw[aA e2,aA (by omega)]
     ·rw[aB e2,aB (by omega)]
   have f:=K.o.aZ (p:=(U R k)) (by show w.heap.size<=R;have:=HR.o;omega) (V (y:Nat));have M:=hide r;have S:=hide f;clear hs P r f G K;go_wp2_with fail;go_roundg (19-(k+1));case measure=>omega
   case rel=>exact⟨k+1,by go_num,by omega,rfl,M,S⟩
  ·have I:¬(k:Int)<19:=(by omega);have N:k=19:=(by omega);subst N;go_wp2_with fail;go_ret;exact⟨R,rfl,by have:=HR.o;omega,G.o.congr (fun i hi=>by dsimp only;rw[aA hi]),K.o⟩
end Go.Proofs.YtbpahojchgpdnaaGreatDoor
namespace Go.dM
variable {row:aD} {a b g m m' n s t x x':Nat} {w:aH}
def FK (l:List Mk):aD:=(List.range 19).map fun i=>(l.map Mk.s).count i
def fI (l:List Mk):(FK l).length=19:=by simp[FK]
def TM (l:List Mk)(i:Nat)(h:i<19):often (FK l) i=(l.map Mk.s).count i:=by unfold often FK;rw[kE,zI h];rfl
def ao0 (l:List Mk)(i:Nat):often (FK l) i<=l.length:=by
 by_cases h:i<19
 ·rw[TM l i h];exact bB O3 (by simp)
 ·unfold often;rw[fZ (by rw[fI];omega)];simp
end Go.dM
namespace Go.Proofs.YtbpahojchgpdnaaGreatDoor
open Go.RowKit Go.Shelf Go.Lib Go.Sort Go.dM Go.Proofs.Tryz
variable {row:aD} {a b g m m' n s t x x':Nat} {w:aH}
def GU (w:aH)(g:Nat)(l:List Mk):Prop:=∀i k,l[i]? =some k->w.cell? ⟨g,i*3,none⟩=some (V (k.s:Nat))/\w.cell? ⟨g,i*3+1,none⟩=some (V (k.x:Nat))/\w.cell? ⟨g,i*3+2,none⟩=some (V (k.m:Nat))
def WW:∀(l:List Mk) (i:Nat) (k:Mk),l[i]? =some k->(nW l)[i*3]? =some (V k.s)/\(nW l)[i*3+1]? =some (V k.x)/\(nW l)[i*3+2]? =some (V k.m)
 |[],i,k,h=>by simp at h
 |p::l,0,k,h=>by cases h;exact⟨rfl,rfl,rfl⟩
 |p::l,i+1,k,h=>by
  have c:=WW l i k (by simpa using h)
  rw[show(i+1)*3=i*3+1+1+1 by omega]
  exact c
def GU.D6 {base cap:Nat}{l:List Mk}(h:w.ownsRow base 175 3 (.slice (some (U g 0)) n cap) l.length (nW l)):GU w g l:=by
 intro i k hk;have e:=WW l i k hk;have c:∀j u,(nW l)[j]? =some u->w.cell? (U g j)=some u:=fun j u d=>by
  have:=h.cells rfl j u d;rw[show(Addr.add (U g 0) j)=(U g j) by simp[Addr.add];omega]at this;exact this
 exact⟨c _ _ e.1,c _ _ e.2.1,c _ _ e.2.2⟩
def GU.step {w':aH}{l:List Mk}{S:Nat->Prop}(h:GU w g l)(hs:Step S w w')(c:¬S g):GU w' g l:=fun i k hk=>
 ⟨hs.cell (h i k hk).1 c,hs.cell (h i k hk).2.1 c,hs.cell (h i k hk).2.2 c⟩
def NZ (g cap:Nat)(l:List Mk)(w:aH)(h:GU w g l)(hg:g<w.heap.size)(hl:l.length<=1000)(hs:∀k∈l,k.s<=18):Calls prog 186 #[.slice (some (U g 0)) l.length cap] w fun e w'=>∃C,e= .returned (.slice (some (U C 0)) 19 19)/\w.heap.size<=C/\fB w' C 19 (often (bI (FK l) 7))/\O w w':=by
 obtain⟨i0,hi,Y,W,Z⟩:=eD info3;have HI:=hide h;have P:=hide hs;obtain⟨n,hn⟩:=aP l.length;rw[<-hn]at hl|-
 have HN:=hide hn;clear h hs hn;go_enter func186,ntmps186;go_wp2_with (at_make;refine sD _ rfl _ _ 57 rfl w.heap.size 3 i0 (V 0) 1 underlying57 hi Y W .i64 .i64 _ _ 19 rfl rfl rfl rfl (by rw[Z];omega) (by unfold maxLen;omega) (aS _) ?_;intro w1 f v);have u:=(aU (fun _=>False) w).grown v (fun k e=>by cases e);have A:fB w1 w.heap.size 19 (fun _=>0):=vY f;obtain⟨R,S⟩:=aP w.heap.size;rw[<-S]at A|-
 have r:=hide u;have J:=hide (show fB w1 R 19 (fun i=>((l.take 0).map Mk.s).count i) from A.congr (fun i hi=>rfl));have HR:=hide S;have af:¬g=R:=by omega
 clear f v u A S;go_loopg [9] n (fun kx u9 wr=>∃t:Nat,u9=V t/\t<=n/\kx=n-t/\Hid (fB wr R 19 (fun i=>((l.take t).map Mk.s).count i))/\Hid (O w wr));case atStart=>exact⟨0,rfl,by omega,rfl,J,r⟩
 case round=>
  clear J r;obtain⟨t,rfl,ae,ac,B,I⟩:=hrel;by_cases ab:t<n
  ·have F:(t:Int)<(n:Int):=(by omega);obtain⟨k,hk⟩:∃k,l[t]? =some k:=⟨_,bV (by have:=HN.o;omega)⟩
   obtain⟨a0,a1,a2⟩:=HI.o.step I.o (fun y=>y) t k hk;have D:=P.o k (nZ hk);obtain⟨s,hs⟩:=aP k.s;obtain⟨x,hx⟩:∃s:Int,s=(k.x:Int):=⟨_,rfl⟩
   obtain⟨m,hm⟩:∃s:Int,s=(k.m:Int):=⟨_,rfl⟩
   rw[<-hs]at a0 D;rw[<-hx]at a1;rw[<-hm]at a2;have Q:((l.take t).map Mk.s).count s<=t:=bB O3 (by simp;omega);have cR:=B.o.cell s (by omega);have fR:=B.o.free s;have lR:=B.o.lt;obtain⟨c,N⟩:=aP (((l.take t).map Mk.s).count s);dsimp only at cR;rw[<-N]at cR Q;have et:((t:Int)).toNat=t:=(by omega);have pt:(0:Int)<=(t:Int):=(by omega);have es:((s:Int)).toNat=s:=(by omega);have ps:(0:Int)<=(s:Int):=(by omega);have qs:(s:Int)<19:=(by omega);have H:(c:Int)+1=((c+1:Nat):Int):=(by omega);have q:fB ((wr.setCell (U R s) (V ((c:Int)+1))).alloc (.cells #[V (s:Nat),V x,V m] 175)) R 19 (fun i=>((l.take (t+1)).map Mk.s).count i):=by
    rw[H];refine(bA.alloc (B.o.set s (V ((c+1:Nat):Int))) _).congr (fun i hi=> ?_);dsimp only;have e9:((l.take (t+1)).map Mk.s).count i=((l.take t).map Mk.s).count i+(if i=s then 1 else 0):=by
     rw[List.map_take,List.map_take];exact zV (by rw[kE,hk,hs];rfl) i
    rw[e9];by_cases e:i=s
    ·rw[aA e,aA e,N,e]
    ·rw[aB e,aB e,lN]
   have d:O w ((wr.setCell (U R s) (V ((c:Int)+1))).alloc (.cells #[V (s:Nat),V x,V m] 175)):=(I.o.aZ (p:=(U R s)) (by show w.heap.size<=R;have:=HR.o;omega) _).alloc _;have L:=hide q;have X:=hide d;have aa:¬R=wr.heap.size:=(by omega);clear hs hx hm N hk H q d B I;go_wp2_with fail;go_roundg (n-(t+1));case measure=>omega
   case rel=>exact⟨t+1,by go_num,by omega,rfl,L,X⟩
  ·have F:¬(t:Int)<(n:Int):=(by omega);have G:t=n:=(by omega);have hN:=HN.o;have j:gG wr R 0 (FK l):=fun i hi=>by
    rw[fI]at hi;have:=B.o.cell i hi;rw[dS,this,TM l i hi,G,hN,sI]
   have z:=vH R 0 19 7 (FK l) wr j (by rw[fI];omega) (by rw[fI];omega) (fun i=>by have:=ao0 l i;omega) (by omega) (by omega) (by rw[fI];decide);rw[fI]at z;have M:=hide z;have hz:=I.o.size;clear j z hN G;go_wp2_with (go_at_call 183;apply M.o.mono;rintro e w5 ⟨C,rfl,ad,T,K⟩);go_ret;exact⟨C,rfl,by omega,T,I.o.trans K⟩
end Go.Proofs.YtbpahojchgpdnaaGreatDoor
namespace Go.Proofs.YtbpahojchgpdnaaGreatDoor
open Go.RowKit Go.dM Go.Proofs.Tryz
variable {row:aD} {a b g m m' n s t x x':Nat} {w:aH}
def Po {c:Nat}(f:c*2^m<=a)(l:a<2*(c*2^m))(e:c*2^m'<=a)(k:a<2*(c*2^m')):m=m':=by
 have key:∀i j:Nat,i<j->2*(c*2^i)<=c*2^j:=fun i j d=>by
  have:2^(i+1)<=2^j:=gL (by omega) d;have:=OM c this;rw[gW]at this;rw[show c*(2^i*2)=2*(c*2^i) by rw[<-vK,nH]]at this;exact this
 rcases zA m m' with h|h|h
 ·have:=key m m' h;omega
 ·exact h
 ·have:=key m' m h;omega
def Ez {P r r':Nat}(h:r*P+x=r'*P+x')(e:x<P)(c:x'<P):r=r':=by
 have d:(r*P+x)/P=r:=by rw[nH,Nat.mul_add_div (by omega),Nat.div_eq_of_lt e,lN]
 have f:(r'*P+x')/P=r':=by rw[nH,Nat.mul_add_div (by omega),Nat.div_eq_of_lt c,lN]
 rw[<-d,h,f]
def TF {s':Nat}(h:LenM n s x m)(k:LenM n s' x' m'):s=s':=by
 rcases h with⟨a1,a2,p,o⟩|⟨a1,a2,p,o,l⟩|⟨a1,a2,p,o,l,z,v⟩
 ·rcases k with⟨b1,b2,f,d⟩|⟨b1,b2,f,d,i⟩|⟨b1,b2,f,d,i,q,j⟩
  ·omega
  ·omega
  ·exact absurd a1 j
 ·rcases k with⟨b1,b2,f,d⟩|⟨b1,b2,f,d,i⟩|⟨b1,b2,f,d,i,q,j⟩
  ·omega
  ·omega
  ·exfalso;have u:2^1<=2^m':=gL (by omega) (by omega);have y:4*2^m'<=(4+(s'-265)%4)*2^m':=mZ _ (by omega);omega
 ·rcases k with⟨b1,b2,f,d⟩|⟨b1,b2,f,d,i⟩|⟨b1,b2,f,d,i,q,j⟩
  ·exact absurd b1 v
  ·exfalso;have u:2^1<=2^m:=gL (by omega) (by omega);have y:4*2^m<=(4+(s-265)%4)*2^m:=mZ _ (by omega);omega
  ·have lo:∀s m:Nat,4*2^m<=(4+(s-265)%4)*2^m:=fun s m=>mZ _ (by omega);have hi:∀s m x:Nat,x<2^m->(4+(s-265)%4)*2^m+x<2*(4*2^m):=fun s m x A=>by
    have:(4+(s-265)%4+1)*2^m<=8*2^m:=mZ _ (by omega);rw[wO (4+(s-265)%4) 1,wJ]at this;omega
   have e:m=m':=Po (a:=(4+(s-265)%4)*2^m+x) (c:=4) (by have:=lo s m;omega) (hi s m x l) (by have:=lo s' m';omega) (by have:=hi s' m' x' i;omega);subst e;have B:=Ez (P:=2^m) (r:=4+(s-265)%4) (r':=4+(s'-265)%4) (x:=x) (x':=x') (by omega) l i;omega
def LG {s':Nat}(h:tL n s x m)(j:tL n s' x' m'):s=s':=by
 rcases h with⟨a1,a2,p,o⟩|⟨a1,a2,p,o,k,v⟩
 ·rcases j with⟨b1,b2,f,d⟩|⟨b1,b2,f,d,i,q⟩
  ·omega
  ·exfalso;have l:2^1<=2^m':=gL (by omega) (by omega);have u:2*2^m'<=(2+s'%2)*2^m':=mZ _ (by omega);omega
 ·rcases j with⟨b1,b2,f,d⟩|⟨b1,b2,f,d,i,q⟩
  ·exfalso;have l:2^1<=2^m:=gL (by omega) (by omega);have u:2*2^m<=(2+s%2)*2^m:=mZ _ (by omega);omega
  ·have lo:∀s m:Nat,2*2^m<=(2+s%2)*2^m:=fun s m=>mZ _ (by omega);have hi:∀s m x:Nat,x<2^m->(2+s%2)*2^m+x<2*(2*2^m):=fun s m x y=>by
    have:(2+s%2+1)*2^m<=4*2^m:=mZ _ (by omega);rw[wO (2+s%2) 1,wJ]at this;omega
   have e:m=m':=Po (a:=(2+s%2)*2^m+x) (c:=2) (by have:=lo s m;omega) (hi s m x k) (by have:=lo s' m';omega) (by have:=hi s' m' x' i;omega);subst e;have z:=Ez (P:=2^m) (r:=2+s%2) (r':=2+s'%2) (x:=x) (x':=x') (by omega) k i;omega
end Go.Proofs.YtbpahojchgpdnaaGreatDoor
