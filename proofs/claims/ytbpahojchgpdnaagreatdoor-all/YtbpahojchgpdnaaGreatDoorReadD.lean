import Derived.Lib.SlFresh
import Derived.Test.YtbpahojchgpdnaaGreatDoorReadC
set_option maxRecDepth 20000
set_option maxHeartbeats 4000000
set_option linter.all false
namespace Go.dM
variable {w w':aH} {base cap f g off:Nat} {v:aK} {B:aD}
structure Cp where
 v:aK
 m:Nat
 xs:List aK
def Cp.ok (w:aH)(size:Nat)(p:Cp):Prop:=p.xs.length=p.m*size/\(∀u∈p.xs,u.oneCell'=true)/\∃ao c,p.v= .slice ao p.m c/\(ao=none->p.m=0/\c=0)/\∀ad,ao=some ad->∀j u,p.xs[j]? =some u->w.cell? (ad.add j)=some u
def sK (R:List Cp)(j:Nat):Nat:=((R.take j).map (·.m)).sum
def VZ (R:List Cp):List aK:=R.flatMap (·.xs)
def KJ {R:List Cp}{j:Nat}{r:Cp}(h:R[j]? =some r):sK R (j+1)=sK R j+r.m:=by unfold sK;rw[jE,h];simp
def Wu {R:List Cp}{j:Nat}{r:Cp}(h:R[j]? =some r):VZ (R.take (j+1))=VZ (R.take j)++r.xs:=by unfold VZ;rw[jE,h];simp
def WR (R:List Cp)(j d:Nat):sK R j<=sK R (j+d):=by
 induction d with
 |zero=>exact aS _
 |succ d ih=>
  refine bB ih ?_;cases h:R[j+d]? with
  |none=>
   have:sK R (j+d+1)=sK R (j+d):=(by unfold sK;rw[jE,h];simp);rw[<-iV,this];exact aS _
  |some r=>rw[<-iV,KJ h];omega
end Go.dM
namespace Go.Proofs.YtbpahojchgpdnaaGreatDoor
open Go.RowKit Go.Lib Go.dM Go.Proofs.Tryz
variable {w w':aH} {base cap f g off:Nat} {v:aK} {B:aD}
def Step.Nt (h:Below w.heap.size w w'):O w w':=⟨h.os,h.tape,h.output,h.size,fun k hk _=>h.block k hk⟩
def BO (j:TypeId)(a:Option Addr)(c:Nat)(w:aH):(Builtin.append_ #[31,31] j #[.slice none 0 0, .slice a 0 c]).run prog w= .ok (.slice none 0 0) w:=by
 obtain⟨m,hi,b,e,i⟩:=eD info5;cases a with
 |none=>simp[Builtin.append_,x9 underlying31,sizeOf,typeInfo,hi,Builtin.lenOf,Builtin.firstCells]
 |some l=>simp[Builtin.append_,x9 underlying31,sizeOf,typeInfo,hi,Builtin.lenOf,Builtin.firstCells,loadCells,loadCellsFrom]
def au0 (w:aH):Calls prog 109 #[.slice none 0 0,V 0] w fun e w'=>e= .returned (.slice none 0 0)/\w'=w:=by go_enter func109,ntmps109;go_wp2_with fail;go_ret;exact⟨rfl,rfl⟩
def a88 (a:Nat)(c l:Option Addr)(m n:Nat)(w:aH)(o:w.cell? (U a 0)=some (.slice c 0 m))(p:w.cell? (U a 1)=some (.slice l 0 n)):Calls prog 64 #[.slice (some (U a 0)) 2 2] w fun e w'=>e= .returned (.slice none 0 0)/\w'=w:=by
 go_enter func64,ntmps64;go_wp2_with fail;go_loopw [3,11] (fun sz i wr=>(∃j:Nat,j<=2/\i=V j)/\sz=V 0/\w=wr) (fun _ i _=>2-(RowKit.intOf i).toNat);case atStart=>exact⟨⟨0,by omega,rfl⟩,rfl,rfl⟩
 case round=>
  obtain⟨⟨j,r,rfl⟩,rfl,rfl⟩:=hrel;have b:j=0\/j=1\/j=2:=by omega
  rcases b with rfl|rfl|rfl
  ·go_wp2_with fail;go_roundw;case rel=>exact⟨⟨1,by omega,rfl⟩,by trivial,by trivial⟩
   case measure=>simp[RowKit.intOf]
  ·go_wp2_with fail;go_roundw;case rel=>exact⟨⟨2,by omega,rfl⟩,by trivial,by trivial⟩
   case measure=>simp[RowKit.intOf]
  ·go_wp2_with (go_at_call 109;apply(au0 _).mono;rintro e w1 ⟨rfl,rfl⟩);go_loopw [6,27] (fun s i wr=>(∃j:Nat,j<=2/\i=V j)/\s= .slice none 0 0/\w1=wr) (fun _ i _=>2-(RowKit.intOf i).toNat);case atStart=>exact⟨⟨0,by omega,rfl⟩,rfl,rfl⟩
   case round=>
    obtain⟨⟨k,hk,rfl⟩,rfl,rfl⟩:=hrel;have b:k=0\/k=1\/k=2:=(by omega);rcases b with rfl|rfl|rfl
    ·go_wp2_with (at_builtin;refine wpList_append_run_sl _ rfl (.tmp 31) (.tmp 32) 31 rfl _ _ rfl rfl (BO _ _ _ _) ?_);go_roundw;case rel=>exact⟨⟨1,by omega,rfl⟩,by trivial,by trivial⟩
     case measure=>simp[RowKit.intOf]
    ·go_wp2_with (at_builtin;refine wpList_append_run_sl _ rfl (.tmp 31) (.tmp 32) 31 rfl _ _ rfl rfl (BO _ _ _ _) ?_);go_roundw;case rel=>exact⟨⟨2,by omega,rfl⟩,by trivial,by trivial⟩
     case measure=>simp[RowKit.intOf]
    ·go_wp2_with fail;go_ret;exact⟨rfl,rfl⟩
def az0 (n:Nat)(w:aH)(s:1<=n)(hn:n<=4000000):Calls prog 109 #[.slice none 0 0,V n] w fun e w'=>∃cap,e= .returned (.slice (some (U w.heap.size 0)) 0 cap)/\n<=cap/\cap<=maxLen/\(∃c:Array aK,c.size=cap*1/\w'=w.drew.alloc (.cells c 5 (0,0))):=by
 obtain⟨u,hi,t,H,m⟩:=eD info5;have hold:(Builtin.firstCells u.size 0 (.slice none 0 0)).run prog w.drew= .ok ([]:List aK).toArray w.drew:=OH w.drew u.size 0 0 0;have b:∀z,_:=fun z=>Lib.run_append_grow_zeros (P:=prog) w 31 3 z 5 u (Value.int .u8 0) .i64 .i64 underlying31 underlying3 hi t none 0 0 [] hold n s (by omega) (by omega) (by omega) (by rw[m];omega) (by rw[m];simp[Builtin.nextslicecap];split<;>omega);simp only[dS]at b;have j:=grownCap_ge w n 0 5;have a:=I5 w n 0 5 (by unfold maxLen;omega);obtain⟨G,x⟩:=aP (grownCap w n 0 5);rw[<-x]at b j a;clear x;obtain⟨c,i⟩:∃c:Array aK,c=([]:List aK).toArray++Builtin.zeroCells (Value.int .u8 0).cells n++Builtin.zeroCells (Value.int .u8 0).cells (G-n):=⟨_,rfl⟩
 rw[<-i]at b;have l:c.size=G*1:=by
  rw[i,zJ,zJ,jI,jI,show(Value.int .u8 0).cells.size=1 from rfl];simp;omega
 have A:=hide l;have p:=hide j;have r:=hide a;have y:(G:Int)<=9223372036854775807:=by unfold maxLen at a;omega
 have C:(0:Int)<(n:Int):=by omega
 clear i l j a hold;go_enter func109,ntmps109;go_wp2_with (at_builtin;refine Lib.wpList_append_run _ rfl _ _ _ _ rfl _ _ rfl rfl _ _ (b _) ?_);go_ret;exact⟨G,rfl,p.o,r.o,c,A.o,rfl⟩
def an1 (a n cap:Nat)(R:List Cp)(w:aH)(aj:R.length=n)(aq:n<=cap)(ap:n<=1000)(ha:∀j r,R[j]? =some r->w.cell? (U a j)=some r.v)(hb:∀r∈R,r.ok w 1)(hp:1<=sK R n)(hR:sK R n<=4000000):Calls prog 64 #[.slice (some (U a 0)) n cap] w fun e w'=>∃c',e= .returned (.slice (some (U w.heap.size 0)) (sK R n) c')/\w'.ownsRow w.heap.size 5 1 (.slice (some (U w.heap.size 0)) (sK R n) c') (sK R n) (VZ R)/\O w w':=by
 obtain⟨i0,hi,au,ag,av⟩:=eD info5;have HA:=hide ha;have HB:=hide hb;clear ha hb;go_enter func64,ntmps64;go_wp2_with fail;go_loopw [3,11] (fun sz i wr=>∃j:Nat,j<=n/\i=V (j:Nat)/\sz=V (sK R j:Nat)/\w=wr) (fun _ i _=>n-(RowKit.intOf i).toNat);case atStart=>exact⟨0,by omega,rfl,rfl,rfl⟩
 case round=>
  obtain⟨j,hj,rfl,rfl,rfl⟩:=hrel;by_cases al:j<n
  ·obtain⟨r,y⟩:∃r,R[j]? =some r:=⟨_,bV (by omega)⟩
   have L:=HA.o j _ y;obtain⟨ao,c,x,_⟩:=(HB.o r (nZ y)).2.2;rw[x]at L;have hs:sK R (j+1)=sK R j+r.m:=KJ y;have J:=WR R (j+1) (n-(j+1));rw[show j+1+(n-(j+1))=n by omega]at J;obtain⟨m,N⟩:=aP r.m;rw[<-N]at hs L;obtain⟨S,G⟩:=aP (sK R j);rw[<-G]at hs;rw[hs]at J;rw[<-G];have HS:=hide hs;have an:(S:Int)+(m:Int)<=4000000:=(by omega);clear hs G y N x hR hp J;have ah:(j:Int)<(n:Int):=(by omega);go_wp2_with fail;go_roundw;case rel=>exact⟨j+1,by omega,by go_num,by rw[HS.o];go_num,bT⟩
   case measure=>simp[RowKit.intOf];omega
  ·obtain rfl:j=n:=by omega
   go_wp2_with (go_at_call 109;apply(az0 (sK R j) _ hp hR).mono;rintro e w1 ⟨c1,rfl,ab,ac,cs,ak,ar⟩)
   have l:(w.alloc (.cells cs 5 (0,0))).drew.ownsRow w.heap.size 5 1 (.slice (some (U w.heap.size 0)) 0 c1) 0 []:=
    ⟨by simp, .inr ⟨w.heap.size,c1,cs,rfl,aS _,aR _ _,by omega,ac,by omega,by simp⟩⟩
   have b:Below w.heap.size w (w.alloc (.cells cs 5 (0,0))).drew:=((qK w.heap.size w).alloc (aS _) _).drew;go_loopw [6,27] (fun s i wr=>∃k:Nat,k<=j/\i=V k/\s= .slice (some (U w.heap.size 0)) (sK R k) c1/\wr.ownsRow w.heap.size 5 1 (.slice (some (U w.heap.size 0)) (sK R k) c1) (sK R k) (VZ (R.take k))/\Below w.heap.size w wr) (fun _ i _=>j-(RowKit.intOf i).toNat);case atStart=>exact⟨0,by omega,rfl,rfl,l,b⟩
   case round=>
    obtain⟨k,hk,rfl,rfl,l,b⟩:=hrel;by_cases am:k<j
    ·obtain⟨r,y⟩:∃r,R[k]? =some r:=⟨_,bV (by omega)⟩
     have I:=HA.o k _ y;have L:=(b.cell (p:=(U a k)) (kF w _ I)).trans I;obtain⟨z,A,ao,c,x,Q,T⟩:=HB.o r (nZ y);rw[x]at L;have hs:sK R (k+1)=sK R k+r.m:=KJ y;have K:VZ (R.take (k+1))=VZ (R.take k)++r.xs:=Wu y;have t:sK R k+r.m<=c1:=by
      have:=WR R (k+1) (j-(k+1));rw[show k+1+(j-(k+1))=j by omega]at this;have:=ab;omega
     have C:∀Y,ao=some Y->∀i u,r.xs[i]? =some u->wr.cell? (Y.add i)=some u:=by
      intro Y aa i u hu;have h1:=T Y aa i u hu;have ae:=kF w _ h1;exact(b.cell ae).trans h1
     obtain⟨m,N⟩:=aP r.m;obtain⟨xs,W⟩:=aP r.xs;rw[<-N]at hs L t Q z;rw[<-W]at K C A z;obtain⟨S,G⟩:=aP (sK R k);rw[<-G]at hs t l;rw[<-G];have Z:=hide z;clear G y I T N W x z;have ai:(k:Int)<(j:Int):=(by omega);go_wp2_with (at_builtin;refine wpList_append_fits_any _ rfl (.tmp 31) (.tmp 32) 31 rfl w.heap.size 5 i0 1 underlying31 hi ag w.heap.size S c1 (VZ (R.take k)) rfl l ao m c xs rfl Z.o Q C A t ?_;intro w2 af M);have H:=b.grown M b.size (fun q hq=>by cases hq;exact aS _);go_roundw;case rel=>exact⟨k+1,by omega,by go_num,by rw[hs],by rw[hs,K];exact af,H⟩
     case measure=>simp[RowKit.intOf];omega
    ·obtain rfl:k=j:=by omega
     go_wp2_with fail;go_ret;refine⟨c1,rfl,?_,Step.Nt b⟩;have:=l;rw[kW (by omega)]at this;exact this
end Go.Proofs.YtbpahojchgpdnaaGreatDoor
namespace Go.Proofs.YtbpahojchgpdnaaGreatDoor
open Go.RowKit Go.dM Go.Maps Go.Proofs.Tryz
variable {w w':aH} {base cap f g off:Nat} {v:aK} {B:aD}
structure uP (w:aH)(N0 f g off cap:Nat)(B:aD):Prop where
 src:Go.dM.ay5 w g off B
 AA:g<f\/(N0<=g/\∃A,w.heap[g]? =some (.cells A 5 (0,0)))
 glt:g<w.heap.size
 aF4:off=4611686018427387904->cap=0
 le:B.length<=cap
 aH1:off=0\/off=4611686018427387904
def X8 {N0:Nat}{ys:aD}(h:Taken w base v ys)(e:∀i:Nat,ys[i]?.getD 0<256)(r:ys.length<=140737488351232)(l:0<w.heap.size)(o:0<f)(s:N0<=base):∃g off cap,v= .slice (bE g off ys.length) ys.length cap/\uP w N0 f g off cap ys/\(g=0\/base<=g):=by
 have b:=h;rcases h.2 with⟨a,m⟩|⟨g,cap,j,a,p,hh,n,_⟩
 ·have c:ys=[]:=kP m;subst c;exact⟨0,4611686018427387904,0,by rw[a];rfl,⟨⟨fun i hi=>by simp at hi,e,by simp⟩, .inl o,l,fun _=>rfl,by simp, .inr rfl⟩, .inl rfl⟩
 ·refine⟨g,0,cap,by rw[ZN (by omega)];exact a,⟨⟨fun i hi=> ?_,e,r⟩, .inr ⟨by omega,_,hh⟩,(h.lt g (by rw[a];rfl)).2,fun x=>by omega,n, .inl rfl⟩, .inr p⟩;unfold Taken at b;rw[a]at b;rw[dS,b.cellAt i (by omega),qM _ _ hi]
def yT (g off n:Nat):(bE g off n=none/\off=4611686018427387904/\n=0)\/bE g off n=some (U g off):=by
 unfold bE;by_cases h:off=4611686018427387904/\n=0
 ·exact .inl ⟨aA h,h.1,h.2⟩
 ·exact .inr (aB h)
def as4 (i:Go.dM.ay5 w g off B)(l:off=4611686018427387904->cap=0):Cp.ok w 1 ⟨.slice (bE g off B.length) B.length cap,B.length,jR B⟩:=by
 refine⟨by simp,yK B,bE g off B.length,cap,rfl,fun h=> ?_,fun n a j u m=> ?_⟩
 ·rcases yT g off B.length with⟨_,b,c⟩|b
  ·exact⟨c,l b⟩
  ·rw[b]at h;cases h
 ·rcases yT g off B.length with⟨e,b,c⟩|b
  ·rw[e]at a;cases a
  ·rw[b]at a;cases a;exact nI.news (show nI w g off B from i.cell) j u m
def Ym (a g off cap l i c:Nat)(B M:aD)(w:aH)(o:w.cell? (U a 0)=some (.slice (bE g off B.length) B.length cap))(p:w.cell? (U a 1)=some (.slice (bE l i M.length) M.length c))(y:Go.dM.ay5 w g off B)(m:Go.dM.ay5 w l i M)(A:off=4611686018427387904->cap=0)(n:i=4611686018427387904->c=0)(C:(B++M).length<=4000000):Calls prog 64 #[.slice (some (U a 0)) 2 2] w fun e w'=>∃v,e= .returned v/\Taken w' w.heap.size v (B++M)/\O w w':=by
 by_cases hn:(B++M).length=0
 ·have x:B=[]:=kP (by rw[aN]at hn;omega);have m:M=[]:=kP (by rw[aN]at hn;omega);subst x m;apply(a88 a _ _ cap c w o p).mono;rintro e w' ⟨rfl,rfl⟩;exact⟨_,rfl,jJ _ _ _ _,aU _ _⟩
 ·have hs:sK [⟨.slice (bE g off B.length) B.length cap,B.length,jR B⟩,⟨.slice (bE l i M.length) M.length c,M.length,jR M⟩] 2=(B++M).length:=by simp[sK]
  have z:VZ [⟨.slice (bE g off B.length) B.length cap,B.length,jR B⟩,⟨.slice (bE l i M.length) M.length c,M.length,jR M⟩]=jR (B++M):=by simp[VZ]
  refine(an1 a 2 2 [⟨.slice (bE g off B.length) B.length cap,B.length,jR B⟩,⟨.slice (bE l i M.length) M.length c,M.length,jR M⟩] w rfl (by omega) (by omega) (fun j r b=> ?_) (fun r t=> ?_) (by rw[hs];omega) (by rw[hs];exact C)).mono ?_
  ·match j,b with
   |0,b=>simp at b;subst b;exact o
   |1,b=>simp at b;subst b;exact p
  ·simp at t;rcases t with rfl|rfl
   ·exact as4 y A
   ·exact as4 m n
  ·rintro e w' ⟨G,rfl,s,u⟩;rw[hs,z]at s;rw[hs];exact⟨_,rfl,s,u⟩
def Cb {M:aD}(a:∀i:Nat,B[i]?.getD 0<256)(b:∀i:Nat,M[i]?.getD 0<256)(i:Nat):(B++M)[i]?.getD 0<256:=by
 rw[List.getElem?_append];split
 ·exact a i
 ·exact b _
def Hg (f g off cap p z Q N J N0:Nat)(B M:aD)(w:aH)(W:bN w f (.slice (bE g off B.length) B.length cap) p z)(Y:uP w N0 f g off cap B)(hM:Go.dM.ay5 w Q N M)(Z:N=4611686018427387904->J=0)(hl:(B++M).length<=4000000)(hf:0<f)(hN:N0<=w.heap.size):Calls prog 41 #[E f, .slice (bE Q N M.length) M.length J] w fun e w'=>e= .returned (.tuple #[])/\∃l i a,bN w' f (.slice (bE l i (B++M).length) (B++M).length a) p z/\uP w' N0 f l i a (B++M)/\(l=0\/w.heap.size<=l)/\Step (·=f) w w':=by
 have aa:=aO W;have c0:w.cell? (U f 0)=some (.slice (bE g off B.length) B.length cap):=aC W 0 _ rfl;obtain⟨a1,u⟩:=aP (bE g off B.length);obtain⟨a2,A⟩:=aP (bE Q N M.length);obtain⟨n1,G⟩:=aP B.length;obtain⟨n2,H⟩:=aP M.length;have HC:=hide (show∀w1:aH,w1=w.alloc (.cells #[.slice a1 n1 cap, .slice a2 n2 J] 31)->Calls prog 64 #[.slice (some (U w.heap.size 0)) 2 2] w1 fun e w'=>∃v,e= .returned v/\(∃b c,v= .slice b (B++M).length c)/\Taken w' w1.heap.size v (B++M)/\O w w'/\w.heap.size<=w1.heap.size from fun w1 L=>by
  have r:O w w1:=by rw[L];exact(aU _ _).alloc _
  have C:w1.heap[w.heap.size]? =some (.cells #[.slice a1 n1 cap, .slice a2 n2 J] 31 (0,0)):=by rw[L];exact aR _ _
  rw[u,A,G,H]at C;apply(Ym w.heap.size g off cap Q N J B M w1 (aC C 0 _ rfl) (aC C 1 _ rfl) (Y.src.step r (fun x=>x)) (hM.step r (fun x=>x)) Y.aF4 Z hl).mono;rintro e w' ⟨v,rfl,R,T⟩;exact⟨v,rfl,R.slice,R,r.trans T,r.size⟩)
 rw[<-u,<-G]at c0;rw[<-A,<-H];clear u A G H;go_enter func41,ntmps41;go_wp2_with fail;apply(HC.o _ rfl).mono;rintro e w2 ⟨v,rfl,⟨b,c,S⟩,K,s,hz⟩;have m:=s.at_ W (fun x=>x);have q0:=aC m 0 _ rfl;have qf:=aJ m 0;have t:=hide (show∃l i a,bN (w2.setCell (U f 0) v) f (.slice (bE l i (B++M).length) (B++M).length a) p z/\uP (w2.setCell (U f 0) v) N0 f l i a (B++M)/\(l=0\/w.heap.size<=l)/\Step (·=f) w (w2.setCell (U f 0) v) from by
  have I:Step (·=f) w2 (w2.setCell (U f 0) v):=(aU (·=f) w2).setCell (p:=(U f 0)) rfl _;have z3:=I.size;have z2:=s.size;obtain⟨l,i,a,R,T,h3⟩:=X8 (N0:=N0) (f:=f) (K.step I (fun j hj x=>by omega)) (Cb Y.src.byte hM.byte) (by omega) (by omega) hf (by omega);refine⟨l,i,a,?_,T,h3.imp id (fun y=>by omega),(s.mono (fun _ x=>x.elim)).trans I⟩;have h9:=aV m 0 v;rw[<-R];simpa using h9)
 obtain⟨n,hn⟩:=aP ((B++M).length);rw[<-hn]at S;rw[S]at t;rw[S];clear K s S m HC hn;go_wp2_with fail;go_end0;exact⟨rfl,t.o⟩
def Oh (g off cap k N0 f:Nat)(B:aD)(w:aH)(j:uP w N0 f g off cap B)(hk:k<=B.length)(p:B.length<=4000000):Calls prog 110 #[.slice (Option.map (fun x=>x.add k) (bE g off B.length)) (B.length-k) (cap-k)] w fun e w'=>∃v,e= .returned v/\(∃b c,v= .slice b (B.drop k).length c)/\Taken w' w.heap.size v (B.drop k)/\O w w':=by
 rcases yT g off B.length with⟨l,i,a⟩|i
 ·have o:=j.aF4 i;have n:B=[]:=kP a;subst n o;rw[l];obtain rfl:k=0:=by simpa using hk
  simp only[Option.map_none,pE,Nat.sub_zero,List.drop_nil];apply(KE w).mono;rintro e w' ⟨rfl,rfl⟩;exact⟨.slice none 0 0,rfl,⟨none,0,rfl⟩,jJ _ _ _ _,aU _ _⟩
 ·rw[i,show Option.map (fun x=>Addr.add x k) (some (U g off))=some ⟨g,off+k,none⟩ by simp[Addr.add]];apply(vC g (off+k) (B.length-k) (cap-k) (B.drop k) w (DK (show nI w g off B from j.src.cell) k) dX (by omega)).mono;rintro e w' ⟨v,rfl,a,m⟩;exact⟨v,rfl,a.slice,a,m⟩
def Rq (g off N0 f k:Nat)(B:aD)(w:aH)(o:uP w N0 f g off k B)(hk:k<=B.length):Calls prog 110 #[.slice (bE g off B.length) (B.length-k) 0] w fun e w'=>∃v,e= .returned v/\(∃b c,v= .slice b (B.drop k).length c)/\Taken w' w.heap.size v (B.drop k)/\O w w':=by
 have r:=o.le;have n:B.length-k=0:=by omega
 have p:B.drop k=[]:=List.drop_eq_nil_of_le (by omega);rw[n,p];rcases yT g off B.length with⟨l,j,a⟩|j
 ·rw[l];apply(KE w).mono;rintro e w' ⟨rfl,rfl⟩;exact⟨_,rfl,⟨_,_,rfl⟩,jJ _ _ _ _,aU _ _⟩
 ·rw[j];apply(vC g off 0 0 [] w (fun i hi=>by simp at hi) rfl (by omega)).mono;rintro e w' ⟨v,rfl,a,m⟩;exact⟨v,rfl,a.slice,a,m⟩
def Ug (a:∀i:Nat,B[i]?.getD 0<256)(k i:Nat):(B.drop k)[i]?.getD 0<256:=by rw[kM];exact a _
def Q6 (f g off cap p z N0:Nat)(B:aD)(w:aH)(G:bN w f (.slice (bE g off B.length) B.length cap) p z)(I:uP w N0 f g off cap B)(S:B.length<=4000000)(hp:p<=8*B.length)(hz:z<=4000000)(hf:0<f)(hN:N0<=w.heap.size):Calls prog 65 #[E f] w fun e w'=>e= .returned (.tuple #[])/\∃t l i,bN w' f (.slice (bE t l (B.drop (p/8)).length) (B.drop (p/8)).length i) (p-8*(p/8)) (z+p/8)/\uP w' N0 f t l i (B.drop (p/8))/\(t=0\/w.heap.size<=t)/\Step (·=f) w w':=by
 have L:=aO G;have T:w.cell? (U f 0)=some (.slice (bE g off B.length) B.length cap):=aC G 0 _ rfl;have c1:w.cell? (U f 1)=some (V p):=aC G 1 _ rfl;have c2:w.cell? (U f 2)=some (V z):=aC G 2 _ rfl;have M:=I.le;have u:=hide (Oh g off cap (p/8) N0 f B w I (by omega) S);have y:=hide (show cap=p/8->Calls prog 110 #[.slice (bE g off B.length) (B.length-p/8) 0] w fun e w'=>∃v,e= .returned v/\(∃b c,v= .slice b (B.drop (p/8)).length c)/\Taken w' w.heap.size v (B.drop (p/8))/\O w w' from fun e=>Rq g off N0 f (p/8) B w (by rw[<-e];exact I) (by omega));have H:=hide (show∀(w1:aH) (v:aK),Taken w1 w.heap.size v (B.drop (p/8))->O w w1->w1.heap[f]? =w.heap[f]? /\∀n:Nat,∃t l i,bN ((((w1.setCell (U f 0) v).setCell (U f 1) (V ((p:Int)-(p:Int)/8*8))).setCell (U f 2) (V ((z:Int)+(p:Int)/8))).drewN n) f (.slice (bE t l (B.drop (p/8)).length) (B.drop (p/8)).length i) (p-8*(p/8)) (z+p/8)/\uP ((((w1.setCell (U f 0) v).setCell (U f 1) (V ((p:Int)-(p:Int)/8*8))).setCell (U f 2) (V ((z:Int)+(p:Int)/8))).drewN n) N0 f t l i (B.drop (p/8))/\(t=0\/w.heap.size<=t)/\Step (·=f) w ((((w1.setCell (U f 0) v).setCell (U f 1) (V ((p:Int)-(p:Int)/8*8))).setCell (U f 2) (V ((z:Int)+(p:Int)/8))).drewN n) from fun w1 v C s=>by
  refine⟨s.block f L (fun x=>x),fun n=> ?_⟩;have r:=s.at_ G (fun x=>x);have A:Step (·=f) w1 ((((w1.setCell (U f 0) v).setCell (U f 1) (V ((p:Int)-(p:Int)/8*8))).setCell (U f 2) (V ((z:Int)+(p:Int)/8))).drewN n):=((((aU (·=f) w1).setCell (p:=(U f 0)) rfl _).setCell (p:=(U f 1)) rfl _).setCell (p:=(U f 2)) rfl _).drewN n;have z1:=s.size;have z3:=A.size;obtain⟨t,l,i,Z,h2,h3⟩:=X8 (N0:=N0) (f:=f) (C.step A (fun j hj x=>by omega)) (Ug I.src.byte (p/8)) (by rw[dX];omega) (by omega) hf (by omega);refine⟨t,l,i,?_,h2,h3,(s.mono (fun _ x=>x.elim)).trans A⟩;have J:=aV (aV (aV r 0 v) 1 (V ((p:Int)-(p:Int)/8*8))) 2 (V ((z:Int)+(p:Int)/8));have W:((p-8*(p/8):Nat):Int)=(p:Int)-(p:Int)/8*8:=by omega
  have Y:((z+p/8:Nat):Int)=(z:Int)+(p:Int)/8:=by omega
  unfold bN;rw[W,Y,<-Z];simpa[World.drewN]using J)
 obtain⟨n,hn⟩:=aP B.length;obtain⟨a,Q⟩:=aP (bE g off B.length);rw[<-Q,<-hn]at T u y;have ac:p<=8*n:=by omega
 have aa:n<=4000000:=by omega
 have ab:n<=cap:=by omega
 obtain⟨m,N⟩:=aP ((B.drop (p/8)).length);have HM:=hide N;rw[<-N]at u y;clear hn Q N I M S hp;go_enter func65,ntmps65;go_wp2_with fail;focus
  apply(y.o (by omega)).mono
 rotate_left;focus
  apply u.o.mono
 all_goals
  rintro e w1 ⟨v,rfl,⟨b,c,hv⟩,C,s⟩;have r:=s.at_ G (fun x=>x);have q0:=(show w1.cell? (U f 0)=some _ from aC r 0 _ rfl)
  have q1:w1.cell? (U f 1)=some (V p):=aC r 1 _ rfl;have q2:w1.cell? (U f 2)=some (V z):=aC r 2 _ rfl;have f0:=aJ r 0;have f1:=aJ r 1;have f2:=aJ r 2;obtain⟨_,K⟩:=H.o w1 v C s;have R:=aO r;subst hv;go_wp2_with fail;go_end0;have J:=K 0;rw[DN]at J;exact⟨rfl,J⟩
def CG (w:aH)(j:Nat):Prop:=∃A t,w.heap[j]? =some (.cells A t (0,0))/\t≠125
def am5 {mb:Nat}{M:Tab}(h:TabAt w mb M):¬CG w mb:=by rintro⟨A,t,a,_⟩;obtain⟨_,_,_,⟨c,b,hh,_⟩,_⟩:=h;rw[a]at hh;simp at hh
def dJ.frame {d z:Nat}{s:GS}{S:Nat->Prop}(h:dJ w d f base g off cap z B s v)(hs:Step S w w')(e:∀j,S j->j<w.heap.size->4<=j/\j≠d/\j≠f/\j≠g/\v.ownBlock≠some j/\CG w j):dJ w' d f base g off cap z B s v:=by
 obtain⟨st,rfl,a,K,L,e3,N,Q,R,T,u,W⟩:=h.ex;have m:=aO a.dec.blk;have y:=aO a.feed;have n1:¬S d:=fun x=>(e d x m).2.1 rfl;have n2:¬S f:=fun x=>(e f x y).2.2.1 rfl;have n3:¬S g:=fun x=>(e g x a.glt).2.2.2.1 rfl;have o:∀mb M,TabAt w mb M->¬S mb:=fun mb M b x=>am5 b (e mb x b.lt).2.2.2.2.2;have n5:∀c C,w.heap[c]? =some (.cells C 125 (0,0))->¬S c:=fun c C I x=>by
  obtain⟨A,t,l,i⟩:=(e c x (aO I)).2.2.2.2.2;rw[I]at l;simp only[fH,uK]at l;exact i l.2.1.symm
 have n:mF w' d f base g off cap z B st s.p:=⟨a.dec.other (hs.block d m n1) (fun k hk=>hs.block k (a.dec.own.lt k hk).2 (fun x=>(e k x (a.dec.own.lt k hk).2).2.2.2.2.1 hk)) hs.size,hs.at_ a.feed n2,a.src.step hs n3,a.af9,nM a.glt hs.size⟩
 refine⟨⟨st,rfl,n,K,L,e3,N,Q,R,T,?_,fun i=> ?_⟩,h.order.step hs (fun k hk x=>by have:=h.zlt;have:=(e k x (by omega)).1;omega),h.zero,bB h.zlt hs.size,h.most,h.room,h.left,h.bits⟩
 ·rcases u with u|⟨c,m1,m2,l,i,G,H,Y,Z,h7⟩
  ·exact .inl u
  ·exact .inr ⟨c,m1,m2,l,hs.at_ i (n5 c _ i),G.step hs (o _ _ G),H.step hs (o _ _ H),Y,Z,h7⟩
 ·have b:=W i;obtain⟨mb,a1,a2,J⟩:=b.sm;obtain⟨x,r,b2⟩:=b.dm;refine⟨⟨mb,a1,a2.step hs (o _ _ a2),J⟩,b.sl,⟨x,r,?_⟩,b.dl,b.sn,b.dn⟩;rcases b2 with b2|⟨m2,c1,c2,c3⟩
  ·exact .inl b2
  ·exact .inr ⟨m2,c1,c2.step hs (o _ _ c2),c3⟩
def dJ.YE {d z:Nat}{s:GS}(h:dJ w d f base g off cap z B s v)(hs:Step (·=f) w w'){i a b A n:Nat}{e:aD}(Z:bN w' f (.slice (bE i a e.length) e.length b) n A)(m:Go.dM.ay5 w' i a e)(hg:tK d f v i)(u:i<w'.heap.size)(hp:n<=8*e.length):dJ w' d f base i a b A e { s with p:=n } v:=by
 obtain⟨st,rfl,c,K,L,e3,M,N,Q,R,r,S⟩:=h.ex;have y:=c.dec.ne;have l:mF w' d f base i a b A e st n:=⟨c.dec.other (hs.block d (aO c.dec.blk) y) (fun k hk=>hs.block k (c.dec.own.lt k hk).2 (fun x=>c.dec.yL.2 (by rw[<-x];exact hk))) hs.size,Z,m,hg,u⟩
 have hz:=h.zero;refine⟨⟨st,rfl,l,K,L,e3,M,N,Q,R,?_,fun t=> ?_⟩,h.order.step hs (fun k hk x=>by omega),h.zero,bB h.zlt hs.size,h.most,h.room,h.left,hp⟩
 ·rcases r with r|⟨J,m1,m2,T,t,W,Y,G,H,I⟩
  ·exact .inl r
  ·exact .inr ⟨J,m1,m2,T,hs.at_ t G.f,W.step hs H.f,Y.step hs I.f,G,H,I⟩
 ·have j:=S t;obtain⟨mb,a1,a2,C⟩:=j.sm;obtain⟨x,o,b2⟩:=j.dm;refine⟨⟨mb,a1,a2.step hs C.f,C⟩,j.sl,⟨x,o,?_⟩,j.dl,j.sn,j.dn⟩;rcases b2 with b2|⟨m2,c1,c2,c3⟩
  ·exact .inl b2
  ·exact .inr ⟨m2,c1,c2.step hs c3.f,c3⟩
variable {k:Nat} {w0 w w':aH} {g off cap f d D X P:Nat} {F:Nat->aK} {B:aD} {most:Nat} {q:RQ} {lv vo v:aK}
def OG.frame (h:OG k w0 w g off cap f d D X B most q lv v)(c:RS k w0 f d D X P F){S:Nat->Prop}(hs:Step S w w')(l:∀j,S j->j<w.heap.size->4<=j/\¬(f<=j/\j<w0.heap.size)/\j≠g/\lv.ownBlock≠some j/\v.ownBlock≠some j/\CG w j):OG k w0 w' g off cap f d D X B most q lv v:=by
 have c1:=c.f4;have c2:=c.fd;have c3:=c.dD;have c4:=c.DP;have H:=c.PN;have I:=h.big;have J:=hs.size;have i:∀j,f<=j->j<w0.heap.size->¬S j:=fun j s t x=>(l j x (by omega)).2.1 ⟨s,t⟩;have n:¬S g:=fun x=>(l g x h.glt).2.2.1 rfl;refine⟨fun a a1 a2 m=> ?_,h.src.step hs n,?_,by have:=h.glt;omega,h.order.step hs (fun j b x=>by have:=(l j x (by omega)).1;omega),h.H9.step hs (fun C=>by have:=c.XP C;exact i X (by omega) (by omega)),kH h.lets hs (fun j b x=>(l j x (h.lets.lt j b).2).2.2.2.1 b),h.ag1,hs.at_ h.feed (i f (by omega) (by omega)),by omega,fun y=>⟨hs.at_ (h.fresh y).1 (i d (by omega) (by omega)),(h.fresh y).2⟩,fun y=> ?_,fun j b=> ?_,h.behind,h.here,h.zp,h.dat.imp fun A y=>hs.at_ y (i d (by omega) (by omega))⟩
 ·rw[<-h.old a a1 a2 m];exact hs.block a (by omega) (i a (by omega) m)
 ·rcases h.AA with y|⟨y,A,z⟩
  ·exact .inl y
  ·exact .inr ⟨y,A,hs.at_ z n⟩
 ·rcases h.inner y with⟨a1,a2⟩|⟨sr,a1,a2⟩
  ·exact .inl ⟨hs.at_ a1 (i d (by omega) (by omega)),a2⟩
  ·refine .inr ⟨sr,a1.frame hs (fun j b u=> ?_),a2⟩;obtain⟨b1,b2,o,G,p,r⟩:=l j b u;exact⟨b1,fun e=>b2 ⟨by omega,by omega⟩,fun e=>b2 ⟨by omega,by omega⟩,o,p,r⟩
 ·obtain⟨a1,a2,m⟩:=h.ar8 j b;exact⟨a1,by omega,m⟩
def OG.YE (h:OG k w0 w g off cap f d D X B most q lv v)(r:RS k w0 f d D X P F)(hs:Step (·=f) w w'){o l i c:Nat}{n:aD}(H:bN w' f (.slice (bE o l (n.drop c).length) (n.drop c).length i) (q.p-8*c) c)(b:uP w' w0.heap.size f o l i (n.drop c))(G:o=0\/w.heap.size<=o)(hp:q.p<=8*n.length)(I:8*c<=q.p):OG k w0 w' o l i f d D X n most { q with z:=c } lv v:=by
 have c1:=r.f4;have c2:=r.fd;have c3:=r.dD;have c4:=r.DP;have N:=r.PN;have Q:=h.big;have L:=hs.size;have C:∀j,v.ownBlock=some j->j≠f/\j≠o:=fun j m=>by
  obtain⟨a1,a2,t⟩:=h.ar8 j m;exact⟨by omega,by rcases G with y|y<;>omega⟩
 refine⟨fun a a1 a2 t=> ?_,b.src,b.AA,b.glt,h.order.step hs (fun j m x=>by omega),h.H9.step hs (fun M x=>by have:=r.XP M;omega),kH h.lets hs (fun j m x=>by have:=(h.lets.lt j m).1;omega),h.ag1,H,by omega,fun y=>⟨hs.at_ (h.fresh y).1 (by omega),(h.fresh y).2⟩,fun y=> ?_,fun j m=> ?_,h.behind,hp,I,h.dat.imp fun A y=>hs.at_ y (by omega)⟩
 ·rw[<-h.old a a1 a2 t];exact hs.block a (by omega) (by omega)
 ·rcases h.inner y with⟨a1,a2⟩|⟨sr,a1,a2,t,J,K,u⟩
  ·exact .inl ⟨hs.at_ a1 (by omega),a2⟩
  ·refine .inr ⟨{ sr with p:=q.p-8*c },a1.YE hs H b.src ⟨by rcases G with y|y<;>omega,by rcases G with y|y<;>omega,fun e=>(C _ e).2 rfl⟩ b.glt (by show q.p-8*c<=8*(n.drop c).length;rw[dX];omega),?_,t,J,K,u⟩;show q.s=({ sr with p:=q.p-8*c }:GS).sh (8*c);rw[a2]at u|-
   unfold GS.sh at u|-
   simp only at u|-
   rw[Nat.sub_add_cancel I,<-u]
 ·obtain⟨a1,a2,t⟩:=h.ar8 j m;exact⟨a1,by omega,(C j m).2⟩
def RQ.flush (q:RQ):RQ:={ q with pre:=q.pre++q.o,o:=[] }
def OG.flush (h:OG k w0 w g off cap f d D X B most q lv v):OG k w0 w g off cap f d D X B most q.flush lv v:=by
 refine⟨h.old,h.src,h.AA,h.glt,h.order,h.H9,h.lets,h.ag1,h.feed,h.big,h.fresh,fun y=> ?_,h.ar8,h.behind,h.here,h.zp,h.dat⟩;rcases h.inner y with⟨a1,a2,a,b,c⟩|⟨sr,a1,a2,a,b,c,e⟩
 ·exact .inl ⟨a1,a2,a,by show q.pre++q.o=[];rw[b,c];rfl,rfl⟩
 ·exact .inr ⟨sr,a1,a2,by show sr.taken=(q.pre++q.o++[]).length;rw[bG];exact a,by show sr.out=q.pre++q.o++[];rw[bG];exact b,c,e⟩
def RV.flush (h:RV k B most q):RV k B most q.flush:=by
 have e:q.flush.pre++q.flush.o=q.pre++q.o:=by show q.pre++q.o++[]=_;rw[bG]
 have c:q.flush.g=q.g:=by
  unfold RQ.g;rw[e];rfl
 refine⟨by rw[e];exact h.bytes,by rw[e];exact h.len,by rw[e];exact h.ay8,by rw[e];exact h.au7,h.al8,fun y=> ?_,h.ile,by rw[e];exact h.sat,h.k1,h.p0,h.p2,by rw[c];exact h.k2,h.k01,h.hh⟩;obtain⟨a,b⟩:=h.ag0 y;exact⟨by show q.pre++q.o=[];rw[a,b];rfl,rfl⟩
def Ck {e:Nat}{out:aD}{used:Nat}{name:aD}:dV k B most q.flush e out used name=dV k B most q e out used name:=by
 have a:q.flush.pre++q.flush.o=q.pre++q.o:=by show q.pre++q.o++[]=_;rw[bG]
 have b:q.flush.g=q.g:=by
  unfold RQ.g;rw[a];rfl
 unfold dV;rw[a,b];rfl
def RV.at_ (h:RV k B most q)(a:Nat):RV k B most { q with z:=a }:=⟨h.bytes,h.len,h.ay8,h.au7,h.al8,h.ag0,h.ile,h.sat,h.k1,h.p0,h.p2,h.k2,h.k01,h.hh⟩
def RV.more (h:RV k B most q)(hp:q.p<=8*B.length)(M:aD):RV k (B++M) most q:=by refine⟨h.bytes,h.len,h.ay8,h.au7,h.al8,h.ag0,h.ile,h.sat,h.k1,h.p0,h.p2,fun e=> ?_,h.k01,h.hh⟩;have c:=h.k2 e;refine⟨fun y=> ?_,c.fl,c.lf,c.ls,c.lb,c.ll,c.nm,c.l6,c.l7⟩;obtain⟨a,b⟩:=c.al y;refine⟨a,?_⟩;rw[b];congr 1;exact(UA (by show q.p/8<=B.length;omega)).symm
def a19 {e:Nat}{out:aD}{used:Nat}{name:aD}(a:Nat):dV k B most { q with z:=a } e out used name=dV k B most q e out used name:=rfl
def as1 (n D:Nat)(K:aH->Prop):Prop:=∀(w w':aH) (j t:Nat) (A:Array aK),t=96\/t=45->w.heap[j]? =some (.cells A t (0,0))->j=D\/n<=j->Step (·=j) w w'->K w->K w'
structure ah9 (w0 w:aH)(base f d D:Nat)(S:Nat->Prop)(x:Nat)(vo:aK)(ys:aD)(used:Nat)(nm:bY)(pt:aK):Prop where
 dec:gQ w D f d pt vo nm
 row:Taken w base vo ys
 step:Step S w0 w
 no:x≠0->used=0
 feed:x=0->∃c z,bN w f c (8*(used-z)) z/\z<=used/\used<=140737488351232
def aC8 (w0 w:aH)(n base f d D:Nat)(S:Nat->Prop)(K:Nat->aK->aD->Nat->bY->aK->aH->Prop)(m:D≠f)(s:S D)(H:∀x vo ys u nm pt,as1 n D (K x vo ys u nm pt))(l:Calls prog 90 #[E D] w fun r w'=>∃(x:Nat) (vo:aK) (ys:aD) (used:Nat) (nm:bY) (pt:aK),r= .returned (V (x:Nat))/\ah9 w0 w' base f d D S x vo ys used nm pt/\K x vo ys used nm pt w'):Calls prog 53 #[E D] w fun r w'=>∃(x:Nat) (vo:aK) (ys:aD) (used:Nat) (nm:bY) (pt:aK),r= .returned (.tuple #[vo,V (x:Nat)])/\Taken w' base vo ys/\ah9 w0 w' base f d D S x (.slice none 0 0) [] used nm pt/\K x vo ys used nm pt w':=by
 go_enter func53,ntmps53;go_wp2_with fail;apply l.mono;rintro r w1 ⟨x,vo,ys,used,nm,pt,rfl,j,hk⟩;have i:=j.dec;have b:=j.row;obtain⟨L,M,t⟩:=b.slice;have a:=hide (show Taken (w1.setCell (U D 3) (.slice none 0 0)) base vo ys/\ah9 w0 (w1.setCell (U D 3) (.slice none 0 0)) base f d D S x (.slice none 0 0) [] used nm pt/\K x vo ys used nm pt (w1.setCell (U D 3) (.slice none 0 0)) from by
  have hs:Step (·=D) w1 (w1.setCell (U D 3) (.slice none 0 0)):=(aU (·=D) w1).setCell (p:=(U D 3)) rfl _;refine⟨fJ b hs (fun k hk x=>kR b i (by decide) (by rw[hk,x])),⟨?_,jJ _ _ _ _,j.step.trans (hs.mono (fun k x=>by subst x;exact s)),j.no,fun y=> ?_⟩,H x vo ys used nm pt w1 _ D _ _ (.inl rfl) i (.inl rfl) hs hk⟩
  ·have G:=aV i 3 (.slice none 0 0);simpa using G
  ·obtain⟨c,z,A,C⟩:=j.feed y;exact⟨c,z,hs.at_ A (fun e=>m e.symm),C⟩)
 have I:=(show w1.cell? (U D 3)=some vo from aC i 3 _ rfl)
 have J:=(show w1.frozen? (U D 3)=false from aJ i 3)
 rw[t]at I a;generalize ys.length=no at*;go_wp2_with fail;go_ret2;exact⟨x,_,ys,used,nm,pt,rfl,a.o⟩
def aA3 (w:aH)(n base f d D:Nat)(S:Nat->Prop)(K:Nat->aK->aD->Nat->bY->aK->aH->Prop)(aj:D≠f)(W:S D)(Y:∀k,S k->k<w.heap.size)(hn:n<=w.heap.size)(hK:∀x vo ys u nm pt,as1 n D (K x vo ys u nm pt))(C:∀w1,O w w1->Calls prog 90 #[E D] w1 fun r w'=>∃(x:Nat) (vo:aK) (ys:aD) (used:Nat) (nm:bY) (pt:aK),r= .returned (V (x:Nat))/\ah9 w1 w' base f d D S x vo ys used nm pt/\K x vo ys used nm pt w'):Calls prog 38 #[E D,E f] w fun r w'=>∃(x:Nat) (vo:aK) (ys:aD) (used:Nat) (nm:bY) (pt:aK),r= .returned (.agg #[V (x:Nat),vo,V used, .string nm])/\Taken w' base vo ys/\gQ w' D f d pt (.slice none 0 0) nm/\Step S w w'/\K x vo ys used nm pt w':=by
 have A:=hide C;have HK:=hide hK;clear C hK;go_enter func38,ntmps38;go_wp2_with fail;obtain⟨R,hR⟩:=aP w.heap.size;obtain⟨w0,l⟩:=aP (w.alloc (.cells #[V 0, .slice none 0 0,V 0, .string ⟨#[]⟩] 45));have I:O w w0:=by rw[l];exact(aU _ _).alloc _
 have av:w0.heap.size=R+1:=by rw[l,hR];simp
 have ad:w0.heap[R]? =some (.cells #[V 0, .slice none 0 0,V 0, .string ⟨#[]⟩] 45 (0,0)):=by rw[l,hR];exact aR _ _
 have ap:R<=w.heap.size:=by omega
 have aq:w.heap.size<=R:=by omega
 rw[<-l,<-hR];clear l hR;apply(aC8 w0 w0 n base f d D S K aj W HK.o (A.o w0 I)).mono;rintro r w1 ⟨e,vo,ys,used,nm,pt,rfl,t,b,hk⟩;have H:=b.dec;obtain⟨m,s,hv⟩:=t.slice;have i:w1.heap[R]? =some (.cells #[V 0, .slice none 0 0,V 0, .string ⟨#[]⟩] 45 (0,0)):=b.step.at_ ad (fun x=>by have:=Y R x;omega);have ao:=(show w1.cell? (U D 4)=some (.string nm) from aC H 4 _ rfl)
 have J:Step S w w1:=(I.mono (fun _ x=>x.elim)).trans b.step;have aw:=J.size;have ac:vo.ownBlock≠some R:=kR t i (by decide);have ai:D≠R:=fun x=>by have:=Y D W;omega
 have T:=hide t;have ag:=hide J;have M:=hide b.feed;have N:=hide ac;have HU:=hide b.no;have Q:=hide i;have L:=hide H;have G:=hide hk;rw[hv]at T N G;rw[hv];have ab:ys.length=ys.length:=rfl;generalize ak:ys.length=len at*;have q0:w1.cell? (U R 0)=some (V 0):=aC i 0 _ rfl;have q1:w1.cell? (U R 1)=some (.slice none 0 0):=aC i 1 _ rfl;have q2:w1.cell? (U R 2)=some (V 0):=aC i 2 _ rfl;have q3:w1.cell? (U R 3)=some (.string ⟨#[]⟩):=aC i 3 _ rfl;have g0:=aJ i 0;have g1:=aJ i 1;have g2:=aJ i 2;have g3:=aJ i 3;have ae:=aO i;have y:=hide (show∀w':aH,Step (·=R) w1 w'->Taken w' base (.slice m len s) ys/\gQ w' D f d pt (.slice none 0 0) nm/\Step S w w'/\K e (.slice m len s) ys used nm pt w' from fun w' hs=>by
  refine⟨fJ T.o hs (fun k hk x=>N.o (by rw[hk,x])),hs.at_ L.o ai,ag.o.trans' hs (fun k hk x=>by omega),HK.o e (.slice m len s) ys used nm pt w1 w' R _ _ (.inr rfl) Q.o (.inr (by omega)) hs G.o⟩)
 clear b I ad i H hv t J ac A hk HK G L Q ak ab;go_wp2_with fail;apply(Ud D nm w1 ao).mono;rintro r w2 ⟨rfl,rfl⟩;by_cases he:e=0
 ·subst he;obtain⟨c,z,aa,an,al⟩:=M.o rfl;have j:=hide aa;obtain⟨a,ha⟩:=aP (used-z);rw[<-ha]at j;have Z:(a:Int)+(z:Int)=(used:Int):=by omega
  have af:=hide Z;have ar:a<=140737488351232:=by omega
  have ax:z<=140737488351232:=by omega
  clear aa M ha an al Z;go_wp2_with fail;apply(YA f (8*a) z _ _ ((dG _ _ _ (aO j.o)).trans j.o) (by omega) (by omega)).mono;rintro r w6 ⟨rfl,k,am⟩;subst am;go_wp2_with fail;have b:=(((((((aU (·=R) w2).alloc (.cells #[V 0, .slice m len s,V 0, .string nm] 45)).drewN k).aZ (p:=(U w2.heap.size 2)) (aS _) (V ((z:Int)+(8*(a:Int)+7)/8))).setCell (p:=(U R 0)) rfl (V 0)).setCell (p:=(U R 1)) rfl (.slice m len s)).setCell (p:=(U R 2)) rfl (V ((z:Int)+(8*(a:Int)+7)/8))).setCell (p:=(U R 3)) rfl (.string nm);refine aY (v:= .agg #[V 0, .slice m len s,V ((z:Int)+(8*(a:Int)+7)/8), .string nm]) (by simp[results,results38,go_sem,q0,q1,q2,q3,ae]) rfl ⟨0, .slice m len s,ys,used,nm,pt,?_,y.o _ b⟩;have h8:(z:Int)+(8*(a:Int)+7)/8=(used:Int):=by
   have:=af.o;omega
  rw[h8];rfl
 ·have au:((e:Int)==0)=false:=aX.2 (by omega);have ah:=hide (HU.o he);clear HU;go_wp2_with fail;have b:=(((((aU (·=R) w2).setCell (p:=(U R 0)) rfl (V e)).setCell (p:=(U R 1)) rfl (.slice m len s)).setCell (p:=(U R 2)) rfl (V 0)).setCell (p:=(U R 3)) rfl (.string nm)).alloc (.cells #[V e, .slice m len s,V 0, .string nm] 45);refine aY (v:= .agg #[V e, .slice m len s,V 0, .string nm]) (by simp[results,results38,go_sem,q0,q1,q2,q3,ae]) rfl ⟨e, .slice m len s,ys,used,nm,pt,?_,y.o _ b⟩;rw[ah.o];rfl
end Go.Proofs.YtbpahojchgpdnaaGreatDoor
