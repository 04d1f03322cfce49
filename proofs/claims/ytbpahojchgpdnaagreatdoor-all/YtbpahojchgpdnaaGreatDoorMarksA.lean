import Derived.Test.YtbpahojchgpdnaaGreatDoorSortC
set_option maxRecDepth 20000
set_option maxHeartbeats 4000000
set_option linter.all false
namespace Go.dM
variable {row:aD} {a b g m m' n s t x x':Nat} {w:aH}
structure Mk where
 s:Nat
 x:Nat
 m:Nat
def Mk.v (k:Mk):aK:= .agg #[V (k.s:Nat),V (k.x:Nat),V (k.m:Nat)]
def FR (row:aD)(a:Nat)(k:Mk)(t:Nat):Prop:=a+t<=row.length/\
  ((k.s=often row a/\k.s<=15/\k.x=0/\k.m=0/\t=1)\/
   (k.s=16/\k.m=2/\k.x+3=t/\k.x<4/\0<a/\∀i,i<t->often row (a+i)=often row (a-1))\/
   (k.s=17/\k.m=3/\k.x+3=t/\k.x<8/\∀i,i<t->often row (a+i)=0)\/
   (k.s=18/\k.m=7/\k.x+11=t/\k.x<128/\∀i,i<t->often row (a+i)=0))
def Ap (row:aD)(a same:Nat):Prop:=1<=same/\a+same<=row.length/\(∀i,i<same->often row (a+i)=often row a)/\(a+same=row.length\/often row (a+same)≠often row a)
def Ap.one (h:Ap row a s)(e:Ap row a t):s=t:=by
 obtain⟨j,k,f,c⟩:=h;obtain⟨k1,k2,i,d⟩:=e;rcases zA s t with y|y|y
 ·rcases c with c|c
  ·omega
  ·exact absurd (i s y) c
 ·exact y
 ·rcases d with d|d
  ·omega
  ·exact absurd (f t y) d
def LQ (row:aD)(a:Nat)(k:Mk)(t:Nat):Prop:=∃same,Ap row a same/\
  ((often row a=0/\11<=same/\k=⟨18,t-11,7⟩/\t=min same 138)\/
   (often row a=0/\same<11/\3<=same/\k=⟨17,t-3,3⟩/\t=min same 10)\/
   (often row a≠0/\3<=same/\(0<a/\often row a=often row (a-1))/\k=⟨16,t-3,2⟩/\t=min same 6)\/
   ((same<3\/(often row a≠0/\¬(0<a/\often row a=often row (a-1))))/\k=⟨often row a,0,0⟩/\t=1))
def LQ.one {o:Nat}{k r:Mk}(h:LQ row a k t)(j:LQ row a r o):k=r/\t=o:=by
 obtain⟨s,hs,h⟩:=h;obtain⟨s',q,j⟩:=j;have e:=hs.one q;subst e;rcases h with⟨a1,a2,i,l⟩|⟨a1,a2,i,l,p⟩|⟨a1,a2,i,l,p⟩|⟨a1,a2,i⟩
 ·rcases j with⟨b1,b2,c,d⟩|⟨b1,b2,c,d,f⟩|⟨b1,b2,c,d,f⟩|⟨b1,b2,c⟩
  ·have e:t=o:=l.trans d.symm;subst e;exact⟨i.trans c.symm,rfl⟩
  ·omega
  ·exact absurd a1 b1
  ·rcases b1 with b1|b1
   ·omega
   ·exact absurd a1 b1.1
 ·rcases j with⟨b1,b2,c,d⟩|⟨b1,b2,c,d,f⟩|⟨b1,b2,c,d,f⟩|⟨b1,b2,c⟩
  ·omega
  ·have e:t=o:=p.trans f.symm;subst e;exact⟨l.trans d.symm,rfl⟩
  ·exact absurd a1 b1
  ·rcases b1 with b1|b1
   ·omega
   ·exact absurd a1 b1.1
 ·rcases j with⟨b1,b2,c,d⟩|⟨b1,b2,c,d,f⟩|⟨b1,b2,c,d,f⟩|⟨b1,b2,c⟩
  ·exact absurd b1 a1
  ·exact absurd b1 a1
  ·have e:t=o:=p.trans f.symm;subst e;exact⟨l.trans d.symm,rfl⟩
  ·rcases b1 with b1|b1
   ·omega
   ·exact absurd i b1.2
 ·rcases j with⟨b1,b2,c,d⟩|⟨b1,b2,c,d,f⟩|⟨b1,b2,c,d,f⟩|⟨b1,b2,c⟩
  ·rcases a1 with a1|a1
   ·omega
   ·exact absurd b1 a1.1
  ·rcases a1 with a1|a1
   ·omega
   ·exact absurd b1 a1.1
  ·rcases a1 with a1|a1
   ·omega
   ·exact absurd c a1.2
  ·exact⟨a2.trans b2.symm,i.trans c.symm⟩
def FR.pos {k:Mk}(h:FR row a k t):1<=t:=by rcases h.2 with h|h|h|h<;>omega
def FR.sym {k:Mk}(h:FR row a k t):k.s<=18:=by rcases h.2 with h|h|h|h<;>omega
end Go.dM
namespace Go.Proofs.YtbpahojchgpdnaaGreatDoor
open Go.RowKit Go.Shelf Go.Lib Go.Sort Go.dM Go.Proofs.Tryz
variable {row:aD} {a b g m m' n s t x x':Nat} {w:aH}
def Zl (g off cap:Nat)(L:aD)(w:aH)(h:gG w g off L)(G:1<=L.length)(r:L.length<=1000):Calls prog 209 #[.slice (some (U g off)) L.length cap] w fun e w'=>∃t:Nat,e= .returned (V t)/\1<=t/\t<=L.length/\(∀i,i<t->often L i=often L 0)/\(t=L.length\/often L t≠often L 0)/\O w w':=by
 have D:=h 0 (by omega);obtain⟨l,c⟩:=aP (often L 0);rw[<-c,lN]at D;rw[<-c];obtain⟨n,hn⟩:=aP L.length;rw[<-hn]at G r|-
 have B:=hide (aQ c hn);clear c hn;go_enter func209,ntmps209;go_wp2_with fail;go_loopg [7] n (fun kx u7 wr=>∃k:Nat,u7=V k/\k<=n/\kx=n-k/\Hid (∀i,i<k->often L i=l)/\wr=w);case atStart=>exact⟨0,rfl,by omega,rfl,(fun i hi=>by omega:∀i,i<0->often L i=l),rfl⟩
 case round=>
  obtain⟨k,rfl,hk,I,p,rfl⟩:=hrel;by_cases J:k<n
  ·have j:(k:Int)<(n:Int):=(by omega);have F:=h k (by have:=B.o.2;omega);have d:k=0->often L k=l:=fun e=>by subst e;exact B.o.1.symm
   obtain⟨y,A⟩:=aP (often L k);rw[<-A]at F d;have C:=hide A;have q:=hide d;clear A d;by_cases u:y=l
   ·subst u;go_wp2_with fail;go_roundg (n-(k+1));case measure=>omega
    case rel=>exact⟨k+1,by go_num,by omega,rfl,(fun i hi=>by
     rcases mK i k with f|f
     ·exact p.o i f
     ·have:i=k:=(by omega);rw[this];exact C.o.symm:∀i,i<k+1->often L i=y),rfl⟩
   ·have H:¬(y:Int)=(l:Int):=(by omega);have z:1<=k:=by
     rcases DZ k with f|f
     ·exact absurd (q.o f) u
     ·exact f
    go_wp2_with fail;go_ret;exact⟨k,rfl,z,by omega,p.o, .inr (by rw[<-C.o];exact u),aU _ _⟩
  ·have j:¬(k:Int)<(n:Int):=(by omega);have v:k=n:=(by omega);subst v;go_wp2_with fail;go_ret;exact⟨k,rfl,by omega,by omega,p.o, .inl rfl,aU _ _⟩
def Vq (same:Nat)(w:aH)(z:11<=same)(A:same<=1000):Calls prog 210 #[.agg #[V 18,V 11,V 7],V same] w fun e w'=>∃t:Nat,e= .returned (.tuple #[(⟨18,t-11,7⟩:Mk).v,V t])/\11<=t/\t<=same/\t-11<128/\t=min same 138/\O w w':=by
 have i:=ay9;obtain⟨t,c⟩:∃t:Nat,t=if same<=138 then same else 138:=⟨_,rfl⟩
 have d:=hide (show t=min same 138 by rw[c];split<;>omega);have f:11<=t/\t<=same/\t<=138:=by split at c<;>omega
 have l:min (same:Int) 138=(t:Int):=by rw[c];split<;>omega
 obtain⟨u,y,C⟩:=f;obtain⟨x,k⟩:∃x:Nat,x=t-11:=⟨_,rfl⟩
 have r:(t:Int)-11=(x:Int):=by omega
 have B:IntKind.i64.wrap 128=128:=by rw[dK];omega
 have p:IntKind.i64.wrap (11+128)=139:=by rw[dK];omega
 have q:IntKind.i64.wrap (139-1)=138:=by rw[dK];omega
 have j:=hide k;clear c k;go_enter func210,ntmps210;go_wp2_with fail;go_big_region_o;go_wp2_with fail;refine aY (v:= .tuple #[.agg #[V 18,V x,V 7],V t]) (by simp[results,results210,go_sem]) rfl ⟨t,?_,u,y,by have:=j.o;omega,d.o,(((aU _ _).alloc _).alloc _).drew⟩;rw[<-j.o];rfl
def Tf (same:Nat)(w:aH)(z:3<=same)(A:same<=1000):Calls prog 210 #[.agg #[V 17,V 3,V 3],V same] w fun e w'=>∃t:Nat,e= .returned (.tuple #[(⟨17,t-3,3⟩:Mk).v,V t])/\3<=t/\t<=same/\t-3<8/\t=min same 10/\O w w':=by
 have i:=ay9;obtain⟨t,c⟩:∃t:Nat,t=if same<=10 then same else 10:=⟨_,rfl⟩
 have d:=hide (show t=min same 10 by rw[c];split<;>omega);have f:3<=t/\t<=same/\t<=10:=by split at c<;>omega
 have l:min (same:Int) 10=(t:Int):=by rw[c];split<;>omega
 obtain⟨u,y,C⟩:=f;obtain⟨x,k⟩:∃x:Nat,x=t-3:=⟨_,rfl⟩
 have r:(t:Int)-3=(x:Int):=by omega
 have B:IntKind.i64.wrap 8=8:=by rw[dK];omega
 have p:IntKind.i64.wrap (3+8)=11:=by rw[dK];omega
 have q:IntKind.i64.wrap (11-1)=10:=by rw[dK];omega
 have j:=hide k;clear c k;go_enter func210,ntmps210;go_wp2_with fail;go_big_region_o;go_wp2_with fail;refine aY (v:= .tuple #[.agg #[V 17,V x,V 3],V t]) (by simp[results,results210,go_sem]) rfl ⟨t,?_,u,y,by have:=j.o;omega,d.o,(((aU _ _).alloc _).alloc _).drew⟩;rw[<-j.o];rfl
def Tt (same:Nat)(w:aH)(z:3<=same)(A:same<=1000):Calls prog 210 #[.agg #[V 16,V 3,V 2],V same] w fun e w'=>∃t:Nat,e= .returned (.tuple #[(⟨16,t-3,2⟩:Mk).v,V t])/\3<=t/\t<=same/\t-3<4/\t=min same 6/\O w w':=by
 have i:=ay9;obtain⟨t,c⟩:∃t:Nat,t=if same<=6 then same else 6:=⟨_,rfl⟩
 have d:=hide (show t=min same 6 by rw[c];split<;>omega);have f:3<=t/\t<=same/\t<=6:=by split at c<;>omega
 have l:min (same:Int) 6=(t:Int):=by rw[c];split<;>omega
 obtain⟨u,y,C⟩:=f;obtain⟨x,k⟩:∃x:Nat,x=t-3:=⟨_,rfl⟩
 have r:(t:Int)-3=(x:Int):=by omega
 have B:IntKind.i64.wrap 4=4:=by rw[dK];omega
 have p:IntKind.i64.wrap (3+4)=7:=by rw[dK];omega
 have q:IntKind.i64.wrap (7-1)=6:=by rw[dK];omega
 have j:=hide k;clear c k;go_enter func210,ntmps210;go_wp2_with fail;go_big_region_o;go_wp2_with fail;refine aY (v:= .tuple #[.agg #[V 16,V x,V 2],V t]) (by simp[results,results210,go_sem]) rfl ⟨t,?_,u,y,by have:=j.o;omega,d.o,(((aU _ _).alloc _).alloc _).drew⟩;rw[<-j.o];rfl
def gG.drop {off:Nat}{L:aD}(h:gG w g off L)(a:Nat):gG w g (off+a) (L.drop a):=fun i hi=>by
 rw[dX]at hi
 have:=h (a+i) (by omega)
 rw[<-iV]at this
 rw[this]
 unfold often
 rw[kM]
def yH (L:aD)(a i:Nat):often (L.drop a) i=often L (a+i):=by unfold often;rw[kM]
def Ao {R d:Nat}{a b c:aK}(h:w.heap[R]? =some (.cells #[a,b,c] d (0,0))):(w.cell? (U R 0)=some a/\w.cell? (U R 1)=some b/\w.cell? (U R 2)=some c)/\w.frozen? (U R 0)=false/\w.frozen? (U R 1)=false/\w.frozen? (U R 2)=false:=⟨⟨aC h 0 _ rfl,aC h 1 _ rfl,aC h 2 _ rfl⟩,aJ h 0,aJ h 1,aJ h 2⟩
def Ey {w1:aH}{R:Nat}(h:O w w1)(d:w.heap.size<=R)(a b c:aK):O w (((w1.setCell (U R 0) a).setCell (U R 1) b).setCell (U R 2) c):=((h.aZ d _).aZ d _).aZ d _
def Ll (g off cap a:Nat)(L:aD)(w:aH)(h:gG w g off L)(ha:a<L.length)(hL:L.length<=1000)(aj:L.length<=cap)(ah:∀i,often L i<=15)(hO:bL w):Calls prog 199 #[.slice (some (U g off)) L.length cap,V a] w fun e w'=>∃(k:Mk) (t:Nat),e= .returned (.tuple #[k.v,V t])/\(FR L a k t/\LQ L a k t)/\O w w':=by
 have ba:=ay9;have S:=Zl g (off+a) (cap-a) (L.drop a) (w.alloc (.cells #[V 0,V 0,V 0] 175)) ((h.step ((aU (fun _=>False) w).alloc _) (fun y=>y)).drop a) (by rw[dX];omega) (by rw[dX];omega);rw[dX]at S;obtain⟨n,hn⟩:=aP L.length;rw[<-hn]at S ha hL aj|-
 have ae:=hide S;have HI:=hide h;have HO:=hide hO;have J:=hide hn;have ao:=hide ah;have ar:(a:Int)<=(n:Int):=by omega
 have au:(a:Int)<=(cap:Int):=by omega
 have av:¬(cap:Int)=(a:Int):=by omega
 have aw:¬cap=a:=by omega
 have ax:((n:Int)-(a:Int)).toNat=n-a:=by omega
 have ay:((cap:Int)-(a:Int)).toNat=cap-a:=by omega
 have bj:((a:Int)).toNat=a:=by omega
 clear h hO S hn ah;go_enter func199,ntmps199;go_upto_region 3 with(go_at_call 209;apply ae.o.mono;rintro e w1 ⟨t,rfl,az,bk,ak,ad,ac⟩);have ab:w1.heap[w.heap.size]? =some (.cells #[V 0,V 0,V 0] 175 (0,0)):=ac.at_ (aR _ _) (fun y=>y);have G:=((aU (fun _=>False) w).alloc (.cells #[V 0,V 0,V 0] 175)).trans ac;obtain⟨om,bf,oa⟩:=HO.o.step G (fun _ _ y=>y)|>fun o=>(⟨o.many,o.few,o.again⟩:_/\_/\_)
 obtain⟨br,bs,bt⟩:=om;obtain⟨bo,bp,bq⟩:=bf;obtain⟨bl,bm,bn⟩:=oa;have ai:=HI.o.step G (fun y=>y);have Q:=J.o;have ca:=ai a (by omega);have H:∀i,i<t->often L (a+i)=often L a:=fun i hi=>by
  have:=ak i hi;rw[yH,yH,lN]at this;exact this
 have r:=hide (show Ap L a t from⟨az,by have:=J.o;omega,H,by
  rw[yH,yH,lN]at ad;rcases ad with y|y
  ·exact .inl (by have:=J.o;omega)
  ·exact .inr y⟩)
 clear ad;have I:=ao.o a;obtain⟨x,hx⟩:=aP (often L a);rw[<-hx]at ca H I;have l:=hide G;have HT:=hide H;have u:=hide hx;have p:=hide ab;have z0:(0:Int)<=(a:Int):=by omega
 have z1:(a:Int)<(n:Int):=by omega
 have aq:=aO ab;obtain⟨R,hR⟩:=aP w.heap.size;rw[<-hR]at p aq|-
 have HR:=hide hR;clear ac G ai Q ak H hx ae ab hR ax ay ar au av aw;have q:w.heap.size<=R:=by rw[HR.o];omega
 by_cases x0:x=0
 ·subst x0;by_cases al:11<=t
  ·have an:(11:Int)<=(t:Int):=(by omega);have am:(t:Int)>=11:=(by omega);go_wp2_with fail;apply(Vq t w1 al (by omega)).mono;rintro e w2 ⟨B,rfl,b1,b2,T,W,c⟩;have B4:=hide W;clear W;have A:=c.at_ p.o (fun y=>y);obtain⟨⟨r0,r1,F⟩,Y,f1,f2⟩:=Ao (A);have j:=Ey (l.o.trans c) q (V 18) (V ((B-11:Nat):Int)) (V 7);obtain⟨P,d⟩:=aP (B-11);rw[<-d]at T j|-
   unfold Mk.v;have N:=hide d;have f:=hide j;clear c A d j;go_wp2_with fail;refine aY (v:= .tuple #[.agg #[V 18,V P,V 7],V B]) (by simp[results,results199,go_sem,r0,r1,F]) rfl ⟨⟨18,P,7⟩,B,rfl,?_,f.o⟩;have Q:=J.o;have d:=N.o;exact⟨⟨by omega, .inr (.inr (.inr ⟨rfl,rfl,by show P+11=B;omega,T,fun i hi=>HT.o i (by omega)⟩))⟩,t,r.o, .inl ⟨u.o.symm,al,by rw[d],B4.o⟩⟩
  ·have an:¬(11:Int)<=(t:Int):=(by omega);have am:¬(t:Int)>=11:=(by omega);by_cases t3:3<=t
   ·have M:(3:Int)<=(t:Int):=(by omega);have K:(t:Int)>=3:=(by omega);go_wp2_with fail;apply(Tf t w1 t3 (by omega)).mono;rintro e w2 ⟨B,rfl,b1,b2,T,W,c⟩;have B4:=hide W;clear W;have A:=c.at_ p.o (fun y=>y);obtain⟨⟨r0,r1,F⟩,Y,f1,f2⟩:=Ao (A);have j:=Ey (l.o.trans c) q (V 17) (V ((B-3:Nat):Int)) (V 3);obtain⟨P,d⟩:=aP (B-3);rw[<-d]at T j|-
    unfold Mk.v;have N:=hide d;have f:=hide j;clear c A d j;go_wp2_with fail;refine aY (v:= .tuple #[.agg #[V 17,V P,V 3],V B]) (by simp[results,results199,go_sem,r0,r1,F]) rfl ⟨⟨17,P,3⟩,B,rfl,?_,f.o⟩;have Q:=J.o;have d:=N.o;exact⟨⟨by omega, .inr (.inr (.inl ⟨rfl,rfl,by show P+3=B;omega,T,fun i hi=>HT.o i (by omega)⟩))⟩,t,r.o, .inr (.inl ⟨u.o.symm,by omega,t3,by rw[d],B4.o⟩)⟩
   ·have M:¬(3:Int)<=(t:Int):=(by omega);have K:¬(t:Int)>=3:=(by omega);have af:decide ((t:Int)>=3)=false:=fT K;have ag:decide ((3:Int)<=(t:Int))=false:=fT M;by_cases a0:0<a
    ·have D:(0:Int)<(a:Int):=(by omega);have C:(a:Int)>0:=(by omega);have Z:decide ((a:Int)>0)=true:=eU C;have aa:decide ((0:Int)<(a:Int))=true:=eU D;obtain⟨m,hm⟩:=aP (a-1);have cm:=HI.o.step l.o (fun y=>y) m (by have:=J.o;omega);obtain⟨y,hy⟩:=aP (often L m);rw[<-hy]at cm;have wm:IntKind.i64.wrap ((a:Int)-1)=(m:Int):=(by rw[dK];omega);have bg:(a:Int)-1=(m:Int):=(by omega);have bb:(0:Int)<=(m:Int):=(by omega);have bc:(m:Int)<(n:Int):=(by omega);have be:((m:Int)).toNat=m:=(by omega);have HM:=hide hm;have X:=hide hy;clear hm hy;by_cases xy:y=0;focus
      subst xy
     rotate_left;focus
      have bh:¬(0:Int)=(y:Int):=(by omega);have ap:((0:Int)==(y:Int))=false:=by simp;omega
     all_goals
      obtain⟨⟨r0,r1,F⟩,Y,f1,f2⟩:=Ao p.o;have f:=hide (Ey l.o q (V 0) (V 0) (V 0));go_wp2_with fail;go_big_region_o;go_wp2_with fail;refine aY (v:= .tuple #[.agg #[V 0,V 0,V 0],V 1]) (by simp[results,results199,go_sem,r0,r1,F]) rfl ⟨⟨0,0,0⟩,1,rfl,?_,f.o.drew⟩;have Q:=J.o;exact⟨⟨by omega, .inl ⟨u.o,by decide,rfl,rfl,rfl⟩⟩,t,r.o, .inr (.inr (.inr ⟨.inl (by omega),by rw[<-u.o],rfl⟩))⟩
    ·have D:¬(0:Int)<(a:Int):=(by omega);have C:¬(a:Int)>0:=(by omega);have Z:decide ((a:Int)>0)=false:=fT C;have aa:decide ((0:Int)<(a:Int))=false:=fT D;obtain⟨⟨r0,r1,F⟩,Y,f1,f2⟩:=Ao p.o;have f:=hide (Ey l.o q (V 0) (V 0) (V 0));go_wp2_with fail;go_big_region_o;go_wp2_with fail;refine aY (v:= .tuple #[.agg #[V 0,V 0,V 0],V 1]) (by simp[results,results199,go_sem,r0,r1,F]) rfl ⟨⟨0,0,0⟩,1,rfl,?_,f.o.drew⟩;have Q:=J.o;exact⟨⟨by omega, .inl ⟨u.o,by decide,rfl,rfl,rfl⟩⟩,t,r.o, .inr (.inr (.inr ⟨.inl (by omega),by rw[<-u.o],rfl⟩))⟩
 ·have bu:¬(x:Int)=0:=by omega
  by_cases a0:0<a
  ·have D:(0:Int)<(a:Int):=(by omega);have C:(a:Int)>0:=(by omega);have Z:decide ((a:Int)>0)=true:=eU C;have aa:decide ((0:Int)<(a:Int))=true:=eU D;obtain⟨m,hm⟩:=aP (a-1);have cm:=HI.o.step l.o (fun y=>y) m (by have:=J.o;omega);obtain⟨y,hy⟩:=aP (often L m);rw[<-hy]at cm;have wm:IntKind.i64.wrap ((a:Int)-1)=(m:Int):=(by rw[dK];omega);have bg:(a:Int)-1=(m:Int):=(by omega);have bb:(0:Int)<=(m:Int):=(by omega);have bc:(m:Int)<(n:Int):=(by omega);have be:((m:Int)).toNat=m:=(by omega);have HM:=hide hm;have X:=hide hy;clear hm hy;by_cases xy:x=y
   ·subst xy;have HY:=X;by_cases t3:3<=t
    ·have M:(3:Int)<=(t:Int):=(by omega);have K:(t:Int)>=3:=(by omega);have af:decide ((t:Int)>=3)=true:=eU K;have ag:decide ((3:Int)<=(t:Int))=true:=eU M;go_wp2_with fail;go_big_region_o;go_wp2_with fail;apply(Tt t w1.drew t3 (by omega)).mono;rintro e w2 ⟨B,rfl,b1,b2,T,W,c⟩;have B4:=hide W;clear W;have A:=c.at_ p.o (fun y=>y);obtain⟨⟨r0,r1,F⟩,Y,f1,f2⟩:=Ao (A);have j:=Ey (l.o.drew.trans c) q (V 16) (V ((B-3:Nat):Int)) (V 2);obtain⟨P,d⟩:=aP (B-3);rw[<-d]at T j|-
     unfold Mk.v;have N:=hide d;have f:=hide j;clear c A d j;go_wp2_with fail;refine aY (v:= .tuple #[.agg #[V 16,V P,V 2],V B]) (by simp[results,results199,go_sem,r0,r1,F]) rfl ⟨⟨16,P,2⟩,B,rfl,?_,f.o⟩;have Q:=J.o;have d:=N.o;have hm:=HM.o;refine⟨⟨by omega, .inr (.inl ⟨rfl,rfl,by show P+3=B;omega,T,by omega,fun i hi=>by
      rw[HT.o i (by omega),show a-1=m by omega];exact HY.o⟩)⟩,t,r.o, .inr (.inr (.inl ⟨by rw[<-u.o];exact x0,t3,⟨a0,?_⟩,by rw[d],B4.o⟩))⟩
     rw[show a-1=m by omega,<-u.o];exact HY.o
    ·have M:¬(3:Int)<=(t:Int):=(by omega);have K:¬(t:Int)>=3:=(by omega);have af:decide ((t:Int)>=3)=false:=fT K;have ag:decide ((3:Int)<=(t:Int))=false:=fT M;obtain⟨⟨r0,r1,F⟩,Y,f1,f2⟩:=Ao p.o;have f:=hide (Ey l.o q (V (x:Nat)) (V 0) (V 0));go_wp2_with fail;go_big_region_o;go_wp2_with fail;refine aY (v:= .tuple #[.agg #[V (x:Nat),V 0,V 0],V 1]) (by simp[results,results199,go_sem,r0,r1,F]) rfl ⟨⟨x,0,0⟩,1,rfl,?_,f.o.drew⟩;have Q:=J.o;exact⟨⟨by omega, .inl ⟨u.o,I,rfl,rfl,rfl⟩⟩,t,r.o, .inr (.inr (.inr ⟨.inl (by omega),by rw[<-u.o],rfl⟩))⟩
   ·have bh:¬(x:Int)=(y:Int):=(by omega);have ap:((x:Int)==(y:Int))=false:=(by simp;omega);obtain⟨⟨r0,r1,F⟩,Y,f1,f2⟩:=Ao p.o;have f:=hide (Ey l.o q (V (x:Nat)) (V 0) (V 0));go_wp2_with fail;go_big_region_o;go_wp2_with fail;refine aY (v:= .tuple #[.agg #[V (x:Nat),V 0,V 0],V 1]) (by simp[results,results199,go_sem,r0,r1,F]) rfl ⟨⟨x,0,0⟩,1,rfl,?_,f.o.drew⟩;have Q:=J.o;exact⟨⟨by omega, .inl ⟨u.o,I,rfl,rfl,rfl⟩⟩,t,r.o, .inr (.inr (.inr ⟨.inr ⟨by rw[<-u.o];exact x0,fun z=>xy (by rw[u.o,X.o,HM.o];exact z.2)⟩,by rw[<-u.o],rfl⟩))⟩
  ·have D:¬(0:Int)<(a:Int):=(by omega);have C:¬(a:Int)>0:=(by omega);have Z:decide ((a:Int)>0)=false:=fT C;have aa:decide ((0:Int)<(a:Int))=false:=fT D;obtain⟨⟨r0,r1,F⟩,Y,f1,f2⟩:=Ao p.o;have f:=hide (Ey l.o q (V (x:Nat)) (V 0) (V 0));go_wp2_with fail;go_big_region_o;go_wp2_with fail;refine aY (v:= .tuple #[.agg #[V (x:Nat),V 0,V 0],V 1]) (by simp[results,results199,go_sem,r0,r1,F]) rfl ⟨⟨x,0,0⟩,1,rfl,?_,f.o.drew⟩;have Q:=J.o;exact⟨⟨by omega, .inl ⟨u.o,I,rfl,rfl,rfl⟩⟩,t,r.o, .inr (.inr (.inr ⟨.inr ⟨by rw[<-u.o];exact x0,fun z=>a0 z.1⟩,by rw[<-u.o],rfl⟩))⟩
end Go.Proofs.YtbpahojchgpdnaaGreatDoor
namespace Go.dM
variable {row:aD} {a b g m m' n s t x x':Nat} {w:aH}
inductive gH (row:aD):Nat->List Mk->Nat->Prop
 |nil (a:Nat):gH row a [] a
 |cons (a:Nat) (k:Mk) (t:Nat) (l:List Mk) (b:Nat) (h:FR row a k t) (hi:LQ row a k t) (r:gH row (a+t) l b):gH row a (k::l) b
def gH.snoc {k:Mk}{l:List Mk}(h:gH row a l b)(hk:FR row b k t)(hi:LQ row b k t):gH row a (l++[k]) (b+t):=by
 induction h with
 |nil a=>exact .cons a k t [] _ hk hi (.nil _)
 |cons a e f l b d c r ih=>exact .cons a e f _ _ d c (ih hk hi)
def gH.nil_eq (h:gH row a [] b):a=b:=by cases h;rfl
def gH.count {l:List Mk}(h:gH row a l b):a+l.length<=b:=by
 induction h with
 |nil a=>simp
 |cons a k t l b hk hi r ih=>have:=hk.pos;simp;omega
def gH.sym {l:List Mk}(h:gH row a l b):∀k∈l,k.s<=18/\k.x<2^k.m/\k.m<=7:=by
 induction h with
 |nil a=>intro k hk;simp at hk
 |cons a f t l b hk hi r ih=>
  intro k e;rcases fE.1 e with rfl|e
  ·refine⟨hk.sym,?_⟩;rcases hk.2 with⟨_,_,c,d,_⟩|⟨_,c,_,d,_⟩|⟨_,c,_,d,_⟩|⟨_,c,_,d,_⟩
   ·rw[c,d];decide
   ·rw[c];exact⟨d,by omega⟩
   ·rw[c];exact⟨d,by omega⟩
   ·rw[c];exact⟨d,by omega⟩
  ·exact ih k e
end Go.dM
namespace Go.Proofs.YtbpahojchgpdnaaGreatDoor
open Go.RowKit Go.Shelf Go.Lib Go.Sort Go.dM Go.Proofs.Tryz
variable {row:aD} {a b g m m' n s t x x':Nat} {w:aH}
def nW:List Mk->List aK
 |[]=>[]
 |k::l=>V (k.s:Nat)::V (k.x:Nat)::V (k.m:Nat)::nW l
def F3:∀l r:List Mk,nW (l++r)=nW l++nW r
 |[],r=>rfl
 |p::l,r=>by simp[nW,F3 l r]
def SC:∀(l:List Mk) (u:aK),u∈nW l->u.oneCell'=true
 |[],u,h=>by simp[nW]at h
 |p::l,u,h=>by
  simp only[nW,fE]at h
  rcases h with rfl|rfl|rfl|h
  ·rfl
  ·rfl
  ·rfl
  ·exact SC l u h
def aw8:(prog.info? 175).map (fun i=>(i.zero,i.size,i.bytes))=some (some (.agg #[V 0,V 0,V 0]),3,24):=by kernel_rfl
def ah1:prog.underlying 229=some (.slice 175):=by kernel_rfl
structure au3 (B:Nat)(w wr:aH)(v:aK)(l:List Mk):Prop where
 row:wr.ownsRow B 175 3 v l.length (nW l)
 st:O w wr
def Br (g off cap:Nat)(L:aD)(w:aH)(h:gG w g off L)(hL:L.length<=1000)(f:L.length<=cap)(D:∀i,often L i<=15)(hO:bL w):Calls prog 185 #[.slice (some ⟨g,off,none⟩) L.length cap] w fun e w'=>∃v l,e= .returned v/\au3 w.heap.size w w' v l/\gH L 0 l L.length:=by
 obtain⟨i0,hi,W,X,J⟩:=eD aw8;have T:=fun(a:Nat) (ha:a<L.length) (wr:aH) (hs:O w wr)=>Ll g off cap a L wr (h.step hs (fun y=>y)) ha hL f D (hO.step hs (fun _ _ y=>y));obtain⟨n,hn⟩:=aP L.length;rw[<-hn]at T hL|-
 have HM:=hide T;have N:=hide hn;obtain⟨B,P⟩:=aP w.heap.size;rw[<-P];have HB:=hide P;clear h T hO D hn f P;go_enter func185,ntmps185;go_wp2_with fail;go_loopg [3,4] n (fun kx u3 u4 wr=>∃(a:Nat) (v:aK) (l:List Mk),u4= .int .i64 (a:Nat)/\u3=v/\a<=n/\kx=n-a/\Hid (au3 B w wr v l)/\Hid (gH L 0 l a)/\B<=wr.heap.size);case atStart=>exact⟨0,_,[],rfl,rfl,by omega,rfl,⟨⟨rfl, .inl ⟨rfl,rfl⟩⟩,aU _ _⟩, .nil 0,by have:=HB.o;omega⟩
 case round=>
  obtain⟨a,v,l,rfl,rfl,ha,ae,A,K,ab⟩:=hrel;by_cases S:a<n
  ·have G:(a:Int)<(n:Int):=(by omega);have R:=HM.o a S wr A.o.st;have z:=hide R;have aa:=K.o.count;go_wp2_with (first
    |(go_at_call 199;apply z.o.mono;rintro e w1 ⟨k,t,rfl,⟨hk,F⟩,c⟩;have M:=hide F;clear F;unfold Mk.v;have H:=tV A.o.row c (fun _ _ y=>y);have ag:=c.size;have ad:=hk.pos;have ac:=hk.1;have Y:=hide hk;have d:=hide (A.o.st.trans c);have p:=hide H;clear hk c H z)
    |(at_builtin;refine fQ _ rfl _ _ 229 rfl B 175 i0 _ 3 24 ah1 hi W X J rfl (by decide) _ l.length (nW l) rfl (by exact(p.o.alloc _).alloc _) ⟨w1.heap.size+1,0,none⟩ 1 1 (nW [k]) rfl rfl ?c1 (SC _) (by decide) ?c3 ?c4 ?c5 ?_))
   case c1=>
    intro i u hu;have Z:=aR (w1.alloc (.cells #[.int .i64 (k.s:Nat), .int .i64 (k.x:Nat), .int .i64 (k.m:Nat)] 175)) (.cells #[.int .i64 (k.s:Nat), .int .i64 (k.x:Nat), .int .i64 (k.m:Nat)] 175);rw[oJ]at Z;have h8:=aC Z i u (by rw[<-hu];simp[nW]);rw[show(Addr.add ⟨w1.heap.size+1,0,none⟩ i)=⟨w1.heap.size+1,i,none⟩ by simp[Addr.add];omega];exact h8
   case c3=>unfold maxLen;omega
   case c4=>omega
   case c5=>simp;omega
   intro g' C w5 j q hg;have r:O w1 ((w1.alloc (.cells #[.int .i64 (k.s:Nat), .int .i64 (k.x:Nat), .int .i64 (k.m:Nat)] 175)).alloc (.cells #[.int .i64 (k.s:Nat), .int .i64 (k.x:Nat), .int .i64 (k.m:Nat)] 175)):=((aU _ _).alloc _).alloc _;have I:O w w5:=(d.o.trans r).grown q (fun b e=> .inr (by
    have h1:=(p.o.lt b e).1;have h2:=HB.o;omega))
   have aj:=q.size;have ai:=r.size;have N1:Hid (au3 B w w5 (.slice (some ⟨g',0,none⟩) (l.length+1) C) (l++[k])):=⟨by rw[aN,F3];exact j,I⟩
   have N2:Hid (gH L 0 (l++[k]) (a+t)):=K.o.snoc Y.o M.o;have af:a+t<=n:=(by have:=N.o;omega);have ah:IntKind.i64.wrap ((a:Int)+(t:Int))=((a+t:Nat):Int):=(by rw[dK];omega);clear j q hg r I d p Y A K;go_wp2_with fail;go_roundg (n-(a+t));case measure=>omega
   case rel=>exact⟨a+t,_,l++[k],by first|rfl|go_num,rfl,by omega,rfl,N1,N2,by omega⟩
  ·have G:¬(a:Int)<(n:Int):=(by omega);have Q:a=n:=(by omega);subst Q;go_wp2_with fail;go_ret;exact⟨_,rfl,l,A.o,K.o⟩
def YP (g off cap c:Nat)(L:aD)(w:aH)(h:gG w g off L)(F:c<=L.length)(J:L.length<=1000)(j:L.length<=cap):Calls prog 184 #[.slice (some (U g off)) L.length cap,V c] w fun e w'=>∃n:Nat,e= .returned (.slice (some (U g off)) n cap)/\c<=n/\n<=L.length/\(∀i,n<=i->often L i=0)/\(c<n->often L (n-1)≠0)/\O w w':=by
 have H:=hide h;obtain⟨N,u⟩:=aP L.length;rw[<-u]at F J j|-
 have A:=hide u;clear h u;go_enter func184,ntmps184;go_wp2_with fail;go_loopg [5] N (fun kx u5 wr=>∃n:Nat,u5=V (n:Nat)/\c<=n/\n<=N/\kx=n/\Hid (∀i,n<=i->often L i=0)/\Hid (O w wr));case atStart=>exact⟨N,rfl,F,by omega,rfl,(fun i hi=>(by unfold often;rw[fZ (by have:=A.o;omega)];rfl):∀i,N<=i->often L i=0),aU _ _⟩
 case round=>
  obtain⟨n,rfl,B,C,K,r,q⟩:=hrel;by_cases v:c<n
  ·have d:(c:Int)<(n:Int):=(by omega);have k:decide ((n:Int)>(c:Int))=true:=eU d;have f:decide ((c:Int)<(n:Int))=true:=eU d;obtain⟨m,G⟩:=aP (n-1);have I:=H.o.step q.o (fun y=>y) m (by have:=A.o;omega);obtain⟨y,z⟩:=aP (often L m);rw[<-z]at I;have X:IntKind.i64.wrap ((n:Int)-1)=(m:Int):=(by rw[dK];omega);have Q:(0:Int)<=(m:Int):=(by omega);have R:(m:Int)<(N:Int):=(by omega);have S:((m:Int)).toNat=m:=(by omega);have p:=hide (aQ G z);clear G z;by_cases l:y=0
   ·subst l;go_wp2_with fail;go_roundg m;case measure=>have:=p.o.1;omega
    case rel=>
     obtain⟨W,T⟩:=p.o;exact⟨m,by first|rfl|go_num,by omega,by omega,rfl,(fun i hi=>(by
      rcases mK i n with D|D
      ·rw[show i=m by omega];exact T.symm
      ·exact r.o i D):∀i,m<=i->often L i=0),q.o⟩
   ·have P:¬(y:Int)=0:=(by omega);have M:((y:Int)==0)=false:=(by simp;omega);go_wp2_with fail;go_ret;exact⟨n,rfl,B,C,r.o,fun _=>by rw[<-p.o.1,<-p.o.2];exact l,q.o⟩
  ·have d:¬(c:Int)<(n:Int):=(by omega);have k:decide ((n:Int)>(c:Int))=false:=fT d;have f:decide ((c:Int)<(n:Int))=false:=fT d;go_wp2_with fail;go_ret;exact⟨n,rfl,B,C,r.o,fun y=>absurd y v,q.o⟩
def Eb:prog.underlying 216=some (.array 19 3):=by kernel_rfl
def ak4:(prog.info? 216).map (·.size)=some 19:=by kernel_rfl
def Sg (d:List aK)(k:Nat)(v:aK)(hk:k<19)(i:d[k]? =some v)(w:aH):(Instr.index 216 (.agg d.toArray) (V k)).run prog w= .ok v w:=by
 obtain⟨j,hi,_,c,_⟩:=eD info3;have e:(Go.sizeOf 3).run prog w= .ok 1 w:=by
  simp[Go.sizeOf,typeInfo,hi,c]
 have f:(0:Int)<=(k:Int)/\(k:Int)<(19:Nat):=by omega
 simp[Instr.index,x9 Eb,asIntOf,f,e,part,i,go_sem];intro h;omega
def aw2:∀k,k<19->bP[k]?.getD 0<19:=by decide
def Ni (g off cap:Nat)(L:aD)(w:aH)(h:gG w g off L)(hl:L.length=19)(hO:bL w)(ae:g<w.heap.size):Calls prog 187 #[.slice (some (U g off)) 19 cap] w fun e w'=>∃R,e= .returned (.slice (some (U R 0)) 19 19)/\w.heap.size<=R/\fB w' R 19 (fun i=>often L (bP[i]?.getD 0))/\O w w':=by
 obtain⟨i0,hi,Z,aa,ab⟩:=eD info3;go_enter func187,ntmps187;obtain⟨z,C⟩:∃z:List aK,z=bP.map fun x=>V (x:Nat):=⟨_,rfl⟩
 have B:z.length=19:=by rw[C];rfl
 have H:∀k,k<19->z[k]? =some (V ((bP[k]?.getD 0:Nat):Int)):=fun k hk=>by
  rw[C,kE,bV (show k<bP.length from hk)];rfl
 have T:(prog.info? 216).map (·.size)=some z.length:=by rw[B];exact ak4
 have M:=hide B;clear C B;go_wp2_with (first
  |(at_make;refine sD _ rfl _ _ 57 rfl w.heap.size 3 i0 (V 0) 1 underlying57 hi Z aa .i64 .i64 _ _ 19 rfl rfl rfl rfl (by rw[ab];omega) (by unfold maxLen;omega) (aS _) ?_;intro w1 c r;have f:=(aU (fun _=>False) w).grown r (fun k e=>by cases e);have J:=hO.step f (fun _ _ y=>y))
  |(refine wpList_load_mid rfl 216 (.global 0) rfl 0 0 rfl z (.array 19 3) ?rg Eb rfl T ?_))
 case rg=>
  intro j v W;have D:=(BD.1 W).1;rw[M.o]at D;rw[H j D]at W;rw[dS,<-W];exact J.order j D
 have A:fB w1 w.heap.size 19 (fun _=>0):=vY c;obtain⟨R,S⟩:=aP w.heap.size;rw[<-S]at A|-
 have q:=hide f;have G:=hide (show fB w1 R 19 (fun i=>if i<0 then often L (bP[i]?.getD 0)else 0) from A.congr (fun i hi=>rfl));have HR:=hide S;have ad:¬g=R:=by omega
 clear c r f J A S;go_wp2_with fail;go_loopg [8] 19 (fun kx u8 wr=>∃k:Nat,u8=V (k:Nat)/\k<=19/\kx=19-k/\Hid (fB wr R 19 (fun i=>if i<k then often L (bP[i]?.getD 0)else 0))/\Hid (O w wr));case atStart=>exact⟨0,rfl,by omega,rfl,G,q⟩
 case round=>
  clear G q;obtain⟨k,rfl,hk,ag,F,K⟩:=hrel;by_cases l:k<19
  ·have I:(k:Int)<19:=(by omega);obtain⟨s,hs⟩:=aP (bP[k]?.getD 0);have ac:s<19:=(by rw[hs];exact aw2 k l);have Q:=h.step K.o (fun y=>y) s (by omega);have cR:=F.o.cell k l;have fR:=F.o.free k;obtain⟨y,Y⟩:=aP (often L s);rw[<-Y]at Q;have af:=Sg z k (V (s:Nat)) l (by rw[hs];exact H k l);have ek:((k:Int)).toNat=k:=(by omega);have pk:(0:Int)<=(k:Int):=(by omega);have es:((s:Int)).toNat=s:=(by omega);have ps:(0:Int)<=(s:Int):=(by omega);have qs:(s:Int)<19:=(by omega);have u:fB (wr.setCell (U R k) (V (y:Nat))) R 19 (fun i=>if i<k+1 then often L (bP[i]?.getD 0)else 0):=by
    refine(F.o.set k (V (y:Nat))).congr (fun i hi=> ?_);dsimp only;by_cases e:i=k
    ·subst e;rw[aA rfl,aA (by omega),Y,hs]
    ·rw[aB e];by_cases e2:i<k
     ·rw[aA e2,aA (by omega)]
     ·rw[aB e2,aB (by omega)]
   have d:=K.o.aZ (p:=(U R k)) (by show w.heap.size<=R;have:=HR.o;omega) (V (y:Nat));have N:=hide u;have P:=hide d;clear hs Y u d F K;go_wp2_with fail;go_roundg (19-(k+1));case measure=>omega
   case rel=>exact⟨k+1,by go_num,by omega,rfl,N,P⟩
  ·have I:¬(k:Int)<19:=(by omega);have X:k=19:=(by omega);subst X;go_wp2_with fail;go_ret;exact⟨R,rfl,by have:=HR.o;omega,F.o.congr (fun i hi=>by dsimp only;rw[aA hi]),K.o⟩
end Go.Proofs.YtbpahojchgpdnaaGreatDoor
namespace Go.dM
variable {row:aD} {a b g m m' n s t x x':Nat} {w:aH}
def FK (l:List Mk):aD:=(List.range 19).map fun i=>(l.map Mk.s).count i
def fI (l:List Mk):(FK l).length=19:=by simp[FK]
def TM (l:List Mk)(i:Nat)(h:i<19):often (FK l) i=(l.map Mk.s).count i:=by unfold often FK;rw[kE,zI h];rfl
def ao0 (l:List Mk)(i:Nat):often (FK l) i<=l.length:=by
 by_cases h:i<19
 ·rw[TM l i h];exact bB O3 (by simp)
 ·unfold often;rw[fZ (by rw[fI];omega)];simp
end Go.dM
namespace Go.Proofs.YtbpahojchgpdnaaGreatDoor
open Go.RowKit Go.Shelf Go.Lib Go.Sort Go.dM Go.Proofs.Tryz
variable {row:aD} {a b g m m' n s t x x':Nat} {w:aH}
def GU (w:aH)(g:Nat)(l:List Mk):Prop:=∀i k,l[i]? =some k->w.cell? ⟨g,i*3,none⟩=some (V (k.s:Nat))/\w.cell? ⟨g,i*3+1,none⟩=some (V (k.x:Nat))/\w.cell? ⟨g,i*3+2,none⟩=some (V (k.m:Nat))
def WW:∀(l:List Mk) (i:Nat) (k:Mk),l[i]? =some k->(nW l)[i*3]? =some (V k.s)/\(nW l)[i*3+1]? =some (V k.x)/\(nW l)[i*3+2]? =some (V k.m)
 |[],i,k,h=>by simp at h
 |p::l,0,k,h=>by cases h;exact⟨rfl,rfl,rfl⟩
 |p::l,i+1,k,h=>by
  have c:=WW l i k (by simpa using h)
  rw[show(i+1)*3=i*3+1+1+1 by omega]
  exact c
def GU.D6 {base cap:Nat}{l:List Mk}(h:w.ownsRow base 175 3 (.slice (some (U g 0)) n cap) l.length (nW l)):GU w g l:=by
 intro i k hk;have e:=WW l i k hk;have c:∀j u,(nW l)[j]? =some u->w.cell? (U g j)=some u:=fun j u d=>by
  have:=h.cells rfl j u d;rw[show(Addr.add (U g 0) j)=(U g j) by simp[Addr.add];omega]at this;exact this
 exact⟨c _ _ e.1,c _ _ e.2.1,c _ _ e.2.2⟩
def GU.step {w':aH}{l:List Mk}{S:Nat->Prop}(h:GU w g l)(hs:Step S w w')(c:¬S g):GU w' g l:=fun i k hk=>
 ⟨hs.cell (h i k hk).1 c,hs.cell (h i k hk).2.1 c,hs.cell (h i k hk).2.2 c⟩
def NZ (g cap:Nat)(l:List Mk)(w:aH)(h:GU w g l)(hg:g<w.heap.size)(hl:l.length<=1000)(hs:∀k∈l,k.s<=18):Calls prog 186 #[.slice (some (U g 0)) l.length cap] w fun e w'=>∃F,e= .returned (.slice (some (U F 0)) 19 19)/\w.heap.size<=F/\fB w' F 19 (often (bI (FK l) 7))/\O w w':=by
 obtain⟨i0,hi,X,Y,Z⟩:=eD info3;have HI:=hide h;have P:=hide hs;obtain⟨n,hn⟩:=aP l.length;rw[<-hn]at hl|-
 have HN:=hide hn;clear h hs hn;go_enter func186,ntmps186;go_wp2_with (at_make;refine sD _ rfl _ _ 57 rfl w.heap.size 3 i0 (V 0) 1 underlying57 hi X Y .i64 .i64 _ _ 19 rfl rfl rfl rfl (by rw[Z];omega) (by unfold maxLen;omega) (aS _) ?_;intro w1 d q);have v:=(aU (fun _=>False) w).grown q (fun k e=>by cases e);have z:fB w1 w.heap.size 19 (fun _=>0):=vY d;obtain⟨R,Q⟩:=aP w.heap.size;rw[<-Q]at z|-
 have j:=hide v;have C:=hide (show fB w1 R 19 (fun i=>((l.take 0).map Mk.s).count i) from z.congr (fun i hi=>rfl));have HR:=hide Q;have ab:¬g=R:=by omega
 clear d q v z Q;go_loopg [9] n (fun kx u9 wr=>∃t:Nat,u9=V t/\t<=n/\kx=n-t/\Hid (fB wr R 19 (fun i=>((l.take t).map Mk.s).count i))/\Hid (O w wr));case atStart=>exact⟨0,rfl,by omega,rfl,C,j⟩
 case round=>
  clear C j;obtain⟨t,rfl,af,ad,B,D⟩:=hrel;by_cases ae:t<n
  ·have I:(t:Int)<(n:Int):=(by omega);obtain⟨k,hk⟩:∃k,l[t]? =some k:=⟨_,bV (by have:=HN.o;omega)⟩
   obtain⟨a0,a1,a2⟩:=HI.o.step D.o (fun y=>y) t k hk;have H:=P.o k (nZ hk);obtain⟨s,hs⟩:=aP k.s;obtain⟨x,hx⟩:∃s:Int,s=(k.x:Int):=⟨_,rfl⟩
   obtain⟨m,hm⟩:∃s:Int,s=(k.m:Int):=⟨_,rfl⟩
   rw[<-hs]at a0 H;rw[<-hx]at a1;rw[<-hm]at a2;have W:((l.take t).map Mk.s).count s<=t:=bB O3 (by simp;omega);have cR:=B.o.cell s (by omega);have fR:=B.o.free s;have lR:=B.o.lt;obtain⟨c,S⟩:=aP (((l.take t).map Mk.s).count s);dsimp only at cR;rw[<-S]at cR W;have et:((t:Int)).toNat=t:=(by omega);have pt:(0:Int)<=(t:Int):=(by omega);have es:((s:Int)).toNat=s:=(by omega);have ps:(0:Int)<=(s:Int):=(by omega);have qs:(s:Int)<19:=(by omega);have G:(c:Int)+1=((c+1:Nat):Int):=(by omega);have r:fB ((wr.setCell (U R s) (V ((c:Int)+1))).alloc (.cells #[V (s:Nat),V x,V m] 175)) R 19 (fun i=>((l.take (t+1)).map Mk.s).count i):=by
    rw[G];refine(bA.alloc (B.o.set s (V ((c+1:Nat):Int))) _).congr (fun i hi=> ?_);dsimp only;have e9:((l.take (t+1)).map Mk.s).count i=((l.take t).map Mk.s).count i+(if i=s then 1 else 0):=by
     rw[List.map_take,List.map_take];exact zV (by rw[kE,hk,hs];rfl) i
    rw[e9];by_cases e:i=s
    ·rw[aA e,aA e,S,e]
    ·rw[aB e,aB e,lN]
   have f:O w ((wr.setCell (U R s) (V ((c:Int)+1))).alloc (.cells #[V (s:Nat),V x,V m] 175)):=(D.o.aZ (p:=(U R s)) (by show w.heap.size<=R;have:=HR.o;omega) _).alloc _;have M:=hide r;have N:=hide f;have aa:¬R=wr.heap.size:=(by omega);clear hs hx hm S hk G r f B D;go_wp2_with fail;go_roundg (n-(t+1));case measure=>omega
   case rel=>exact⟨t+1,by go_num,by omega,rfl,M,N⟩
  ·have I:¬(t:Int)<(n:Int):=(by omega);have K:t=n:=(by omega);have hN:=HN.o;have u:gG wr R 0 (FK l):=fun i hi=>by
    rw[fI]at hi;have:=B.o.cell i hi;rw[dS,this,TM l i hi,K,hN,sI]
   have A:=vH R 0 19 7 (FK l) wr u (by rw[fI];omega) (by rw[fI];omega) (fun i=>by have:=ao0 l i;omega) (by omega) (by omega) (by rw[fI];decide);rw[fI]at A;have L:=hide A;have hz:=D.o.size;clear u A hN K;go_wp2_with (go_at_call 183;apply L.o.mono;rintro e w5 ⟨F,rfl,ac,T,J⟩);go_ret;exact⟨F,rfl,by omega,T,D.o.trans J⟩
end Go.Proofs.YtbpahojchgpdnaaGreatDoor
namespace Go.Proofs.YtbpahojchgpdnaaGreatDoor
open Go.RowKit Go.dM Go.Proofs.Tryz
variable {row:aD} {a b g m m' n s t x x':Nat} {w:aH}
def Po {c:Nat}(e:c*2^m<=a)(f:a<2*(c*2^m))(k:c*2^m'<=a)(l:a<2*(c*2^m')):m=m':=by
 have key:∀i j:Nat,i<j->2*(c*2^i)<=c*2^j:=fun i j d=>by
  have:2^(i+1)<=2^j:=gL (by omega) d;have:=OM c this;rw[gW]at this;rw[show c*(2^i*2)=2*(c*2^i) by rw[<-vK,nH]]at this;exact this
 rcases zA m m' with h|h|h
 ·have:=key m m' h;omega
 ·exact h
 ·have:=key m' m h;omega
def Ez {P r r':Nat}(h:r*P+x=r'*P+x')(f:x<P)(c:x'<P):r=r':=by
 have d:(r*P+x)/P=r:=by rw[nH,Nat.mul_add_div (by omega),Nat.div_eq_of_lt f,lN]
 have e:(r'*P+x')/P=r':=by rw[nH,Nat.mul_add_div (by omega),Nat.div_eq_of_lt c,lN]
 rw[<-d,h,e]
def TF {s':Nat}(h:LenM n s x m)(l:LenM n s' x' m'):s=s':=by
 rcases h with⟨a1,a2,o,p⟩|⟨a1,a2,o,p,j⟩|⟨a1,a2,o,p,j,z,u⟩
 ·rcases l with⟨b1,b2,d,f⟩|⟨b1,b2,d,f,i⟩|⟨b1,b2,d,f,i,q,k⟩
  ·omega
  ·omega
  ·exact absurd a1 k
 ·rcases l with⟨b1,b2,d,f⟩|⟨b1,b2,d,f,i⟩|⟨b1,b2,d,f,i,q,k⟩
  ·omega
  ·omega
  ·exfalso;have v:2^1<=2^m':=gL (by omega) (by omega);have y:4*2^m'<=(4+(s'-265)%4)*2^m':=mZ _ (by omega);omega
 ·rcases l with⟨b1,b2,d,f⟩|⟨b1,b2,d,f,i⟩|⟨b1,b2,d,f,i,q,k⟩
  ·exact absurd b1 u
  ·exfalso;have v:2^1<=2^m:=gL (by omega) (by omega);have y:4*2^m<=(4+(s-265)%4)*2^m:=mZ _ (by omega);omega
  ·have lo:∀s m:Nat,4*2^m<=(4+(s-265)%4)*2^m:=fun s m=>mZ _ (by omega);have hi:∀s m x:Nat,x<2^m->(4+(s-265)%4)*2^m+x<2*(4*2^m):=fun s m x B=>by
    have:(4+(s-265)%4+1)*2^m<=8*2^m:=mZ _ (by omega);rw[wO (4+(s-265)%4) 1,wJ]at this;omega
   have e:m=m':=Po (a:=(4+(s-265)%4)*2^m+x) (c:=4) (by have:=lo s m;omega) (hi s m x j) (by have:=lo s' m';omega) (by have:=hi s' m' x' i;omega);subst e;have A:=Ez (P:=2^m) (r:=4+(s-265)%4) (r':=4+(s'-265)%4) (x:=x) (x':=x') (by omega) j i;omega
def LG {s':Nat}(h:tL n s x m)(k:tL n s' x' m'):s=s':=by
 rcases h with⟨a1,a2,l,o⟩|⟨a1,a2,l,o,j,v⟩
 ·rcases k with⟨b1,b2,d,f⟩|⟨b1,b2,d,f,i,p⟩
  ·omega
  ·exfalso;have q:2^1<=2^m':=gL (by omega) (by omega);have u:2*2^m'<=(2+s'%2)*2^m':=mZ _ (by omega);omega
 ·rcases k with⟨b1,b2,d,f⟩|⟨b1,b2,d,f,i,p⟩
  ·exfalso;have q:2^1<=2^m:=gL (by omega) (by omega);have u:2*2^m<=(2+s%2)*2^m:=mZ _ (by omega);omega
  ·have lo:∀s m:Nat,2*2^m<=(2+s%2)*2^m:=fun s m=>mZ _ (by omega);have hi:∀s m x:Nat,x<2^m->(2+s%2)*2^m+x<2*(2*2^m):=fun s m x z=>by
    have:(2+s%2+1)*2^m<=4*2^m:=mZ _ (by omega);rw[wO (2+s%2) 1,wJ]at this;omega
   have e:m=m':=Po (a:=(2+s%2)*2^m+x) (c:=2) (by have:=lo s m;omega) (hi s m x j) (by have:=lo s' m';omega) (by have:=hi s' m' x' i;omega);subst e;have y:=Ez (P:=2^m) (r:=2+s%2) (r':=2+s'%2) (x:=x) (x':=x') (by omega) j i;omega
end Go.Proofs.YtbpahojchgpdnaaGreatDoor
