import Derived.Lib.SlFresh
import Derived.Test.YtbpahojchgpdnaaGreatDoorReadC
set_option maxRecDepth 20000
set_option maxHeartbeats 4000000
set_option linter.all false
namespace Go.dM
variable {w w':aH} {base cap f g off:Nat} {v:aK} {B:aD}
structure Cp where
 v:aK
 m:Nat
 xs:List aK
def Cp.ok (w:aH)(size:Nat)(p:Cp):Prop:=p.xs.length=p.m*size/\(∀u∈p.xs,u.oneCell'=true)/\∃ao c,p.v= .slice ao p.m c/\(ao=none->p.m=0/\c=0)/\∀ad,ao=some ad->∀j u,p.xs[j]? =some u->w.cell? (ad.add j)=some u
def sK (R:List Cp)(j:Nat):Nat:=((R.take j).map (·.m)).sum
def VZ (R:List Cp):List aK:=R.flatMap (·.xs)
def KJ {R:List Cp}{j:Nat}{r:Cp}(h:R[j]? =some r):sK R (j+1)=sK R j+r.m:=by unfold sK;rw[jE,h];simp
def Wu {R:List Cp}{j:Nat}{r:Cp}(h:R[j]? =some r):VZ (R.take (j+1))=VZ (R.take j)++r.xs:=by unfold VZ;rw[jE,h];simp
def WR (R:List Cp)(j d:Nat):sK R j<=sK R (j+d):=by
 induction d with
 |zero=>exact aS _
 |succ d ih=>
  refine bB ih ?_;cases h:R[j+d]? with
  |none=>
   have:sK R (j+d+1)=sK R (j+d):=(by unfold sK;rw[jE,h];simp);rw[<-iV,this];exact aS _
  |some r=>rw[<-iV,KJ h];omega
end Go.dM
namespace Go.Proofs.YtbpahojchgpdnaaGreatDoor
open Go.RowKit Go.Lib Go.dM Go.Proofs.Tryz
variable {w w':aH} {base cap f g off:Nat} {v:aK} {B:aD}
def Step.Nt (h:Below w.heap.size w w'):O w w':=⟨h.os,h.tape,h.output,h.size,fun k hk _=>h.block k hk⟩
def BO (b:TypeId)(a:Option Addr)(c:Nat)(w:aH):(Builtin.append_ #[31,31] b #[.slice none 0 0, .slice a 0 c]).run prog w= .ok (.slice none 0 0) w:=by
 obtain⟨l,hi,e,i,j⟩:=eD info5;cases a with
 |none=>simp[Builtin.append_,x9 underlying31,sizeOf,typeInfo,hi,Builtin.lenOf,Builtin.firstCells]
 |some m=>simp[Builtin.append_,x9 underlying31,sizeOf,typeInfo,hi,Builtin.lenOf,Builtin.firstCells,loadCells,loadCellsFrom]
def au0 (w:aH):Calls prog 109 #[.slice none 0 0,V 0] w fun e w'=>e= .returned (.slice none 0 0)/\w'=w:=by go_enter func109,ntmps109;go_wp2_with fail;go_ret;exact⟨rfl,rfl⟩
def a88 (a:Nat)(m l:Option Addr)(n c:Nat)(w:aH)(r:w.cell? (U a 0)=some (.slice m 0 n))(o:w.cell? (U a 1)=some (.slice l 0 c)):Calls prog 64 #[.slice (some (U a 0)) 2 2] w fun e w'=>e= .returned (.slice none 0 0)/\w'=w:=by
 go_enter func64,ntmps64;go_wp2_with fail;go_loopw [3,11] (fun sz i wr=>(∃j:Nat,j<=2/\i=V j)/\sz=V 0/\w=wr) (fun _ i _=>2-(RowKit.intOf i).toNat);case atStart=>exact⟨⟨0,by omega,rfl⟩,rfl,rfl⟩
 case round=>
  obtain⟨⟨j,p,rfl⟩,rfl,rfl⟩:=hrel;have b:j=0\/j=1\/j=2:=by omega
  rcases b with rfl|rfl|rfl
  ·go_wp2_with fail;go_roundw;case rel=>exact⟨⟨1,by omega,rfl⟩,by bT,by bT⟩
   case measure=>simp[RowKit.intOf]
  ·go_wp2_with fail;go_roundw;case rel=>exact⟨⟨2,by omega,rfl⟩,by bT,by bT⟩
   case measure=>simp[RowKit.intOf]
  ·go_wp2_with (go_at_call 109;apply(au0 _).mono;rintro e w1 ⟨rfl,rfl⟩);go_loopw [6,27] (fun s i wr=>(∃j:Nat,j<=2/\i=V j)/\s= .slice none 0 0/\w1=wr) (fun _ i _=>2-(RowKit.intOf i).toNat);case atStart=>exact⟨⟨0,by omega,rfl⟩,rfl,rfl⟩
   case round=>
    obtain⟨⟨k,hk,rfl⟩,rfl,rfl⟩:=hrel;have b:k=0\/k=1\/k=2:=(by omega);rcases b with rfl|rfl|rfl
    ·go_wp2_with (at_builtin;refine wpList_append_run_sl _ rfl (.tmp 31) (.tmp 32) 31 rfl _ _ rfl rfl (BO _ _ _ _) ?_);go_roundw;case rel=>exact⟨⟨1,by omega,rfl⟩,by bT,by bT⟩
     case measure=>simp[RowKit.intOf]
    ·go_wp2_with (at_builtin;refine wpList_append_run_sl _ rfl (.tmp 31) (.tmp 32) 31 rfl _ _ rfl rfl (BO _ _ _ _) ?_);go_roundw;case rel=>exact⟨⟨2,by omega,rfl⟩,by bT,by bT⟩
     case measure=>simp[RowKit.intOf]
    ·go_wp2_with fail;go_ret;exact⟨rfl,rfl⟩
def az0 (n:Nat)(w:aH)(r:1<=n)(hn:n<=4000000):Calls prog 109 #[.slice none 0 0,V n] w fun e w'=>∃cap,e= .returned (.slice (some (U w.heap.size 0)) 0 cap)/\n<=cap/\cap<=maxLen/\(∃i:Array aK,i.size=cap*1/\w'=w.drew.alloc (.cells i 5 (0,0))):=by
 obtain⟨t,hi,s,C,m⟩:=eD info5;have hold:(Builtin.firstCells t.size 0 (.slice none 0 0)).run prog w.drew= .ok ([]:List aK).toArray w.drew:=OH w.drew t.size 0 0 0;have a:∀z,_:=fun z=>Lib.run_append_grow_zeros (P:=prog) w 31 3 z 5 t (Value.int .u8 0) .i64 .i64 underlying31 underlying3 hi s none 0 0 [] hold n r (by omega) (by omega) (by omega) (by rw[m];omega) (by rw[m];simp[Builtin.nextslicecap];split<;>omega);simp only[dS]at a;have c:=grownCap_ge w n 0 5;have b:=I5 w n 0 5 (by unfold maxLen;omega);obtain⟨G,x⟩:=aP (grownCap w n 0 5);rw[<-x]at a c b;clear x;obtain⟨i,j⟩:∃i:Array aK,i=([]:List aK).toArray++Builtin.zeroCells (Value.int .u8 0).cells n++Builtin.zeroCells (Value.int .u8 0).cells (G-n):=⟨_,rfl⟩
 rw[<-j]at a;have l:i.size=G*1:=by
  rw[j,zJ,zJ,jI,jI,show(Value.int .u8 0).cells.size=1 from rfl];simp;omega
 have H:=hide l;have p:=hide c;have u:=hide b;have y:(G:Int)<=9223372036854775807:=by unfold maxLen at b;omega
 have A:(0:Int)<(n:Int):=by omega
 clear j l c b hold;go_enter func109,ntmps109;go_wp2_with (at_builtin;refine Lib.wpList_append_run _ rfl _ _ _ _ rfl _ _ rfl rfl _ _ (a _) ?_);go_ret;exact⟨G,rfl,p.o,u.o,i,H.o,rfl⟩
def an1 (a n cap:Nat)(R:List Cp)(w:aH)(aj:R.length=n)(al:n<=cap)(am:n<=1000)(ha:∀j r,R[j]? =some r->w.cell? (U a j)=some r.v)(hb:∀r∈R,r.ok w 1)(hp:1<=sK R n)(hR:sK R n<=4000000):Calls prog 64 #[.slice (some (U a 0)) n cap] w fun e w'=>∃c',e= .returned (.slice (some (U w.heap.size 0)) (sK R n) c')/\w'.ownsRow w.heap.size 5 1 (.slice (some (U w.heap.size 0)) (sK R n) c') (sK R n) (VZ R)/\O w w':=by
 obtain⟨i0,hi,ar,ac,av⟩:=eD info5;have HA:=hide ha;have HB:=hide hb;clear ha hb;go_enter func64,ntmps64;go_wp2_with fail;go_loopw [3,11] (fun sz i wr=>∃j:Nat,j<=n/\i=V (j:Nat)/\sz=V (sK R j:Nat)/\w=wr) (fun _ i _=>n-(RowKit.intOf i).toNat);case atStart=>exact⟨0,by omega,rfl,rfl,rfl⟩
 case round=>
  obtain⟨j,hj,rfl,rfl,rfl⟩:=hrel;by_cases ak:j<n
  ·obtain⟨r,y⟩:∃r,R[j]? =some r:=⟨_,bV (by omega)⟩
   have L:=HA.o j _ y;obtain⟨ao,c,x,_⟩:=(HB.o r (nZ y)).2.2;rw[x]at L;have hs:sK R (j+1)=sK R j+r.m:=KJ y;have J:=WR R (j+1) (n-(j+1));rw[show j+1+(n-(j+1))=n by omega]at J;obtain⟨m,M⟩:=aP r.m;rw[<-M]at hs L;obtain⟨S,H⟩:=aP (sK R j);rw[<-H]at hs;rw[hs]at J;rw[<-H];have HS:=hide hs;have au:(S:Int)+(m:Int)<=4000000:=(by omega);clear hs H y M x hR hp J;have ai:(j:Int)<(n:Int):=(by omega);go_wp2_with fail;go_roundw;case rel=>exact⟨j+1,by omega,by go_num,by rw[HS.o];go_num,bT⟩
   case measure=>simp[RowKit.intOf];omega
  ·obtain rfl:j=n:=by omega
   go_wp2_with (go_at_call 109;apply(az0 (sK R j) _ hp hR).mono;rintro e w1 ⟨c1,rfl,ae,ag,cs,aq,ap⟩)
   have l:(w.alloc (.cells cs 5 (0,0))).drew.ownsRow w.heap.size 5 1 (.slice (some (U w.heap.size 0)) 0 c1) 0 []:=
    ⟨by simp, .inr ⟨w.heap.size,c1,cs,rfl,aS _,aR _ _,by omega,ag,by omega,by simp⟩⟩
   have b:Below w.heap.size w (w.alloc (.cells cs 5 (0,0))).drew:=((qK w.heap.size w).alloc (aS _) _).drew;go_loopw [6,27] (fun s i wr=>∃k:Nat,k<=j/\i=V k/\s= .slice (some (U w.heap.size 0)) (sK R k) c1/\wr.ownsRow w.heap.size 5 1 (.slice (some (U w.heap.size 0)) (sK R k) c1) (sK R k) (VZ (R.take k))/\Below w.heap.size w wr) (fun _ i _=>j-(RowKit.intOf i).toNat);case atStart=>exact⟨0,by omega,rfl,rfl,l,b⟩
   case round=>
    obtain⟨k,hk,rfl,rfl,l,b⟩:=hrel;by_cases an:k<j
    ·obtain⟨r,y⟩:∃r,R[k]? =some r:=⟨_,bV (by omega)⟩
     have I:=HA.o k _ y;have L:=(b.cell (p:=(U a k)) (kF w _ I)).trans I;obtain⟨z,A,ao,c,x,W,N⟩:=HB.o r (nZ y);rw[x]at L;have hs:sK R (k+1)=sK R k+r.m:=KJ y;have Q:VZ (R.take (k+1))=VZ (R.take k)++r.xs:=Wu y;have t:sK R k+r.m<=c1:=by
      have:=WR R (k+1) (j-(k+1));rw[show k+1+(j-(k+1))=j by omega]at this;have:=ae;omega
     have C:∀Y,ao=some Y->∀i u,r.xs[i]? =some u->wr.cell? (Y.add i)=some u:=by
      intro Y Z i u hu;have h1:=N Y Z i u hu;have ab:=kF w _ h1;exact(b.cell ab).trans h1
     obtain⟨m,M⟩:=aP r.m;obtain⟨xs,T⟩:=aP r.xs;rw[<-M]at hs L t W z;rw[<-T]at Q C A z;obtain⟨S,H⟩:=aP (sK R k);rw[<-H]at hs t l;rw[<-H];have af:=hide z;clear H y I N M T x z;have ah:(k:Int)<(j:Int):=(by omega);go_wp2_with (at_builtin;refine wpList_append_fits_any _ rfl (.tmp 31) (.tmp 32) 31 rfl w.heap.size 5 i0 1 underlying31 hi ac w.heap.size S c1 (VZ (R.take k)) rfl l ao m c xs rfl af.o W C A t ?_;intro w2 aa K);have G:=b.grown K b.size (fun q hq=>by cases hq;exact aS _);go_roundw;case rel=>exact⟨k+1,by omega,by go_num,by rw[hs],by rw[hs,Q];exact aa,G⟩
     case measure=>simp[RowKit.intOf];omega
    ·obtain rfl:k=j:=by omega
     go_wp2_with fail;go_ret;refine⟨c1,rfl,?_,Step.Nt b⟩;have:=l;rw[kW (by omega)]at this;exact this
end Go.Proofs.YtbpahojchgpdnaaGreatDoor
namespace Go.Proofs.YtbpahojchgpdnaaGreatDoor
open Go.RowKit Go.dM Go.Maps Go.Proofs.Tryz
variable {w w':aH} {base cap f g off:Nat} {v:aK} {B:aD}
structure uP (w:aH)(N0 f g off cap:Nat)(B:aD):Prop where
 src:Go.dM.Src w g off B
 AA:g<f\/(N0<=g/\∃A,w.heap[g]? =some (.cells A 5 (0,0)))
 glt:g<w.heap.size
 aF4:off=4611686018427387904->cap=0
 le:B.length<=cap
 aH1:off=0\/off=4611686018427387904
def X8 {N0:Nat}{ys:aD}(h:Taken w base v ys)(e:∀i:Nat,ys[i]?.getD 0<256)(r:ys.length<=140737488351232)(j:0<w.heap.size)(m:0<f)(s:N0<=base):∃g off cap,v= .slice (bE g off ys.length) ys.length cap/\uP w N0 f g off cap ys/\(g=0\/base<=g):=by
 have c:=h;rcases h.2 with⟨a,l⟩|⟨g,cap,n,a,o,hh,p,_⟩
 ·have b:ys=[]:=kP l;subst b;exact⟨0,4611686018427387904,0,by rw[a];rfl,⟨⟨fun i hi=>by simp at hi,e,by simp⟩, .inl m,j,fun _=>rfl,by simp, .inr rfl⟩, .inl rfl⟩
 ·refine⟨g,0,cap,by rw[ZN (by omega)];exact a,⟨⟨fun i hi=> ?_,e,r⟩, .inr ⟨by omega,_,hh⟩,(h.lt g (by rw[a];rfl)).2,fun x=>by omega,p, .inl rfl⟩, .inr o⟩;unfold Taken at c;rw[a]at c;rw[dS,c.cellAt i (by omega),qM _ _ hi]
def yT (g off n:Nat):(bE g off n=none/\off=4611686018427387904/\n=0)\/bE g off n=some (U g off):=by
 unfold bE;by_cases h:off=4611686018427387904/\n=0
 ·exact .inl ⟨aA h,h.1,h.2⟩
 ·exact .inr (aB h)
def as4 (e:Go.dM.Src w g off B)(m:off=4611686018427387904->cap=0):Cp.ok w 1 ⟨.slice (bE g off B.length) B.length cap,B.length,jR B⟩:=by
 refine⟨by simp,yK B,bE g off B.length,cap,rfl,fun h=> ?_,fun n a j u l=> ?_⟩
 ·rcases yT g off B.length with⟨_,b,c⟩|b
  ·exact⟨c,m b⟩
  ·rw[b]at h;cases h
 ·rcases yT g off B.length with⟨i,b,c⟩|b
  ·rw[i]at a;cases a
  ·rw[b]at a;cases a;exact nI.news (show nI w g off B from e.cell) j u l
def Ym (a g off cap l c i:Nat)(B M:aD)(w:aH)(o:w.cell? (U a 0)=some (.slice (bE g off B.length) B.length cap))(p:w.cell? (U a 1)=some (.slice (bE l c M.length) M.length i))(x:Go.dM.Src w g off B)(n:Go.dM.Src w l c M)(z:off=4611686018427387904->cap=0)(m:c=4611686018427387904->i=0)(A:(B++M).length<=4000000):Calls prog 64 #[.slice (some (U a 0)) 2 2] w fun e w'=>∃v,e= .returned v/\Taken w' w.heap.size v (B++M)/\O w w':=by
 by_cases hn:(B++M).length=0
 ·have u:B=[]:=kP (by rw[aN]at hn;omega);have n:M=[]:=kP (by rw[aN]at hn;omega);subst u n;apply(a88 a _ _ cap i w o p).mono;rintro e w' ⟨rfl,rfl⟩;exact⟨_,rfl,jJ _ _ _ _,aU _ _⟩
 ·have hs:sK [⟨.slice (bE g off B.length) B.length cap,B.length,jR B⟩,⟨.slice (bE l c M.length) M.length i,M.length,jR M⟩] 2=(B++M).length:=by simp[sK]
  have C:VZ [⟨.slice (bE g off B.length) B.length cap,B.length,jR B⟩,⟨.slice (bE l c M.length) M.length i,M.length,jR M⟩]=jR (B++M):=by simp[VZ]
  refine(an1 a 2 2 [⟨.slice (bE g off B.length) B.length cap,B.length,jR B⟩,⟨.slice (bE l c M.length) M.length i,M.length,jR M⟩] w rfl (by omega) (by omega) (fun j r b=> ?_) (fun r t=> ?_) (by rw[hs];omega) (by rw[hs];exact A)).mono ?_
  ·match j,b with
   |0,b=>simp at b;subst b;exact o
   |1,b=>simp at b;subst b;exact p
  ·simp at t;rcases t with rfl|rfl
   ·exact as4 x z
   ·exact as4 n m
  ·rintro e w' ⟨G,rfl,s,y⟩;rw[hs,C]at s;rw[hs];exact⟨_,rfl,s,y⟩
def Cb {M:aD}(a:∀i:Nat,B[i]?.getD 0<256)(b:∀i:Nat,M[i]?.getD 0<256)(i:Nat):(B++M)[i]?.getD 0<256:=by
 rw[List.getElem?_append];split
 ·exact a i
 ·exact b _
def Hg (f g off cap p z S J N N0:Nat)(B M:aD)(w:aH)(W:bN w f (.slice (bE g off B.length) B.length cap) p z)(T:uP w N0 f g off cap B)(hM:Go.dM.Src w S J M)(Y:J=4611686018427387904->N=0)(hl:(B++M).length<=4000000)(hf:0<f)(hN:N0<=w.heap.size):Calls prog 41 #[E f, .slice (bE S J M.length) M.length N] w fun e w'=>e= .returned (.tuple #[])/\∃l a i,bN w' f (.slice (bE l a (B++M).length) (B++M).length i) p z/\uP w' N0 f l a i (B++M)/\(l=0\/w.heap.size<=l)/\Step (·=f) w w':=by
 have aa:=aO W;have c0:w.cell? (U f 0)=some (.slice (bE g off B.length) B.length cap):=aC W 0 _ rfl;obtain⟨a1,u⟩:=aP (bE g off B.length);obtain⟨a2,C⟩:=aP (bE S J M.length);obtain⟨n1,G⟩:=aP B.length;obtain⟨n2,I⟩:=aP M.length;have HC:=hide (show∀w1:aH,w1=w.alloc (.cells #[.slice a1 n1 cap, .slice a2 n2 N] 31)->Calls prog 64 #[.slice (some (U w.heap.size 0)) 2 2] w1 fun e w'=>∃v,e= .returned v/\(∃b c,v= .slice b (B++M).length c)/\Taken w' w1.heap.size v (B++M)/\O w w'/\w.heap.size<=w1.heap.size from fun w1 K=>by
  have s:O w w1:=by rw[K];exact(aU _ _).alloc _
  have A:w1.heap[w.heap.size]? =some (.cells #[.slice a1 n1 cap, .slice a2 n2 N] 31 (0,0)):=by rw[K];exact aR _ _
  rw[u,C,G,I]at A;apply(Ym w.heap.size g off cap S J N B M w1 (aC A 0 _ rfl) (aC A 1 _ rfl) (T.src.step s (fun x=>x)) (hM.step s (fun x=>x)) T.aF4 Y hl).mono;rintro e w' ⟨v,rfl,R,Z⟩;exact⟨v,rfl,R.slice,R,s.trans Z,s.size⟩)
 rw[<-u,<-G]at c0;rw[<-C,<-I];clear u C G I;go_enter func41,ntmps41;go_wp2_with fail;apply(HC.o _ rfl).mono;rintro e w2 ⟨v,rfl,⟨b,c,Q⟩,L,m,hz⟩;have r:=m.at_ W (fun x=>x);have q0:=aC r 0 _ rfl;have qf:=aJ r 0;have t:=hide (show∃l a i,bN (w2.setCell (U f 0) v) f (.slice (bE l a (B++M).length) (B++M).length i) p z/\uP (w2.setCell (U f 0) v) N0 f l a i (B++M)/\(l=0\/w.heap.size<=l)/\Step (·=f) w (w2.setCell (U f 0) v) from by
  have H:Step (·=f) w2 (w2.setCell (U f 0) v):=(aU (·=f) w2).setCell (p:=(U f 0)) rfl _;have z3:=H.size;have z2:=m.size;obtain⟨l,a,i,R,Z,h3⟩:=X8 (N0:=N0) (f:=f) (L.step H (fun j hj x=>by omega)) (Cb T.src.byte hM.byte) (by omega) (by omega) hf (by omega);refine⟨l,a,i,?_,Z,h3.imp id (fun y=>by omega),(m.mono (fun _ x=>x.elim)).trans H⟩;have h9:=aV r 0 v;rw[<-R];simpa using h9)
 obtain⟨n,hn⟩:=aP ((B++M).length);rw[<-hn]at Q;rw[Q]at t;rw[Q];clear L m Q r HC hn;go_wp2_with fail;go_end0;exact⟨rfl,t.o⟩
def Oh (g off cap k N0 f:Nat)(B:aD)(w:aH)(j:uP w N0 f g off cap B)(hk:k<=B.length)(p:B.length<=4000000):Calls prog 110 #[.slice (Option.map (fun x=>x.add k) (bE g off B.length)) (B.length-k) (cap-k)] w fun e w'=>∃v,e= .returned v/\(∃b c,v= .slice b (B.drop k).length c)/\Taken w' w.heap.size v (B.drop k)/\O w w':=by
 rcases yT g off B.length with⟨m,i,a⟩|i
 ·have o:=j.aF4 i;have l:B=[]:=kP a;subst l o;rw[m];obtain rfl:k=0:=by simpa using hk
  simp only[Option.map_none,pE,Nat.sub_zero,List.drop_nil];apply(KE w).mono;rintro e w' ⟨rfl,rfl⟩;exact⟨.slice none 0 0,rfl,⟨none,0,rfl⟩,jJ _ _ _ _,aU _ _⟩
 ·rw[i,show Option.map (fun x=>Addr.add x k) (some (U g off))=some ⟨g,off+k,none⟩ by simp[Addr.add]];apply(vC g (off+k) (B.length-k) (cap-k) (B.drop k) w (DK (show nI w g off B from j.src.cell) k) dX (by omega)).mono;rintro e w' ⟨v,rfl,a,n⟩;exact⟨v,rfl,a.slice,a,n⟩
def Rq (g off N0 f k:Nat)(B:aD)(w:aH)(n:uP w N0 f g off k B)(hk:k<=B.length):Calls prog 110 #[.slice (bE g off B.length) (B.length-k) 0] w fun e w'=>∃v,e= .returned v/\(∃b c,v= .slice b (B.drop k).length c)/\Taken w' w.heap.size v (B.drop k)/\O w w':=by
 have r:=n.le;have l:B.length-k=0:=by omega
 have p:B.drop k=[]:=List.drop_eq_nil_of_le (by omega);rw[l,p];rcases yT g off B.length with⟨m,j,a⟩|j
 ·rw[m];apply(KE w).mono;rintro e w' ⟨rfl,rfl⟩;exact⟨_,rfl,⟨_,_,rfl⟩,jJ _ _ _ _,aU _ _⟩
 ·rw[j];apply(vC g off 0 0 [] w (fun i hi=>by simp at hi) rfl (by omega)).mono;rintro e w' ⟨v,rfl,a,o⟩;exact⟨v,rfl,a.slice,a,o⟩
def Ug (a:∀i:Nat,B[i]?.getD 0<256)(k i:Nat):(B.drop k)[i]?.getD 0<256:=by rw[kM];exact a _
def Q6 (f g off cap p z N0:Nat)(B:aD)(w:aH)(G:bN w f (.slice (bE g off B.length) B.length cap) p z)(H:uP w N0 f g off cap B)(R:B.length<=4000000)(hp:p<=8*B.length)(hz:z<=4000000)(hf:0<f)(hN:N0<=w.heap.size):Calls prog 65 #[E f] w fun e w'=>e= .returned (.tuple #[])/\∃t i l,bN w' f (.slice (bE t i (B.drop (p/8)).length) (B.drop (p/8)).length l) (p-8*(p/8)) (z+p/8)/\uP w' N0 f t i l (B.drop (p/8))/\(t=0\/w.heap.size<=t)/\Step (·=f) w w':=by
 have M:=aO G;have c0:w.cell? (U f 0)=some (.slice (bE g off B.length) B.length cap):=aC G 0 _ rfl;have c1:w.cell? (U f 1)=some (V p):=aC G 1 _ rfl;have c2:w.cell? (U f 2)=some (V z):=aC G 2 _ rfl;have N:=H.le;have u:=hide (Oh g off cap (p/8) N0 f B w H (by omega) R);have A:=hide (show cap=p/8->Calls prog 110 #[.slice (bE g off B.length) (B.length-p/8) 0] w fun e w'=>∃v,e= .returned v/\(∃b c,v= .slice b (B.drop (p/8)).length c)/\Taken w' w.heap.size v (B.drop (p/8))/\O w w' from fun e=>Rq g off N0 f (p/8) B w (by rw[<-e];exact H) (by omega));have I:=hide (show∀(w1:aH) (v:aK),Taken w1 w.heap.size v (B.drop (p/8))->O w w1->w1.heap[f]? =w.heap[f]? /\∀n:Nat,∃t i l,bN ((((w1.setCell (U f 0) v).setCell (U f 1) (V ((p:Int)-(p:Int)/8*8))).setCell (U f 2) (V ((z:Int)+(p:Int)/8))).drewN n) f (.slice (bE t i (B.drop (p/8)).length) (B.drop (p/8)).length l) (p-8*(p/8)) (z+p/8)/\uP ((((w1.setCell (U f 0) v).setCell (U f 1) (V ((p:Int)-(p:Int)/8*8))).setCell (U f 2) (V ((z:Int)+(p:Int)/8))).drewN n) N0 f t i l (B.drop (p/8))/\(t=0\/w.heap.size<=t)/\Step (·=f) w ((((w1.setCell (U f 0) v).setCell (U f 1) (V ((p:Int)-(p:Int)/8*8))).setCell (U f 2) (V ((z:Int)+(p:Int)/8))).drewN n) from fun w1 v C s=>by
  refine⟨s.block f M (fun x=>x),fun n=> ?_⟩;have r:=s.at_ G (fun x=>x);have y:Step (·=f) w1 ((((w1.setCell (U f 0) v).setCell (U f 1) (V ((p:Int)-(p:Int)/8*8))).setCell (U f 2) (V ((z:Int)+(p:Int)/8))).drewN n):=((((aU (·=f) w1).setCell (p:=(U f 0)) rfl _).setCell (p:=(U f 1)) rfl _).setCell (p:=(U f 2)) rfl _).drewN n;have z1:=s.size;have z3:=y.size;obtain⟨t,i,l,W,h2,h3⟩:=X8 (N0:=N0) (f:=f) (C.step y (fun j hj x=>by omega)) (Ug H.src.byte (p/8)) (by rw[dX];omega) (by omega) hf (by omega);refine⟨t,i,l,?_,h2,h3,(s.mono (fun _ x=>x.elim)).trans y⟩;have J:=aV (aV (aV r 0 v) 1 (V ((p:Int)-(p:Int)/8*8))) 2 (V ((z:Int)+(p:Int)/8));have e1:((p-8*(p/8):Nat):Int)=(p:Int)-(p:Int)/8*8:=by omega
  have e2:((z+p/8:Nat):Int)=(z:Int)+(p:Int)/8:=by omega
  unfold bN;rw[e1,e2,<-W];simpa[World.drewN]using J)
 obtain⟨n,hn⟩:=aP B.length;obtain⟨a,S⟩:=aP (bE g off B.length);rw[<-S,<-hn]at c0 u A;have Z:p<=8*n:=by omega
 have aa:n<=4000000:=by omega
 have Y:n<=cap:=by omega
 obtain⟨m,K⟩:=aP ((B.drop (p/8)).length);have HM:=hide K;rw[<-K]at u A;clear hn S K H N R hp;go_enter func65,ntmps65;go_wp2_with fail;focus
  apply(A.o (by omega)).mono
 rotate_left;focus
  apply u.o.mono
 all_goals
  rintro e w1 ⟨v,rfl,⟨b,c,T⟩,C,s⟩;have r:=s.at_ G (fun x=>x);have q0:=(show w1.cell? (U f 0)=some _ from aC r 0 _ rfl)
  have q1:w1.cell? (U f 1)=some (V p):=aC r 1 _ rfl;have q2:w1.cell? (U f 2)=some (V z):=aC r 2 _ rfl;have f0:=aJ r 0;have f1:=aJ r 1;have f2:=aJ r 2;obtain⟨_,L⟩:=I.o w1 v C s;have Q:=aO r;subst T;go_wp2_with fail;go_end0;have J:=L 0;rw[DN]at J;exact⟨rfl,J⟩
def CG (w:aH)(j:Nat):Prop:=∃A t,w.heap[j]? =some (.cells A t (0,0))/\t≠125
def am5 {mb:Nat}{M:Tab}(h:TabAt w mb M):¬CG w mb:=by rintro⟨A,t,a,_⟩;obtain⟨_,_,_,⟨b,c,hh,_⟩,_⟩:=h;rw[a]at hh;simp at hh
def dJ.frame {d z:Nat}{s:GS}{S:Nat->Prop}(h:dJ w d f base g off cap z B s v)(hs:Step S w w')(c:∀j,S j->j<w.heap.size->4<=j/\j≠d/\j≠f/\j≠g/\v.ownBlock≠some j/\CG w j):dJ w' d f base g off cap z B s v:=by
 obtain⟨st,rfl,a,K,N,e3,Y,W,R,Q,u,T⟩:=h.ex;have n:=aO a.dec.blk;have r:=aO a.feed;have n1:¬S d:=fun x=>(c d x n).2.1 rfl;have n2:¬S f:=fun x=>(c f x r).2.2.1 rfl;have n3:¬S g:=fun x=>(c g x a.glt).2.2.2.1 rfl;have o:∀mb M,TabAt w mb M->¬S mb:=fun mb M b x=>am5 b (c mb x b.lt).2.2.2.2.2;have L:∀e I,w.heap[e]? =some (.cells I 125 (0,0))->¬S e:=fun e I H x=>by
  obtain⟨A,t,m,i⟩:=(c e x (aO H)).2.2.2.2.2;rw[H]at m;simp only[fH,uK]at m;exact i m.2.1.symm
 have l:mF w' d f base g off cap z B st s.p:=⟨a.dec.other (hs.block d n n1) (fun k hk=>hs.block k (a.dec.own.lt k hk).2 (fun x=>(c k x (a.dec.own.lt k hk).2).2.2.2.2.1 hk)) hs.size,hs.at_ a.feed n2,a.src.step hs n3,a.af9,nM a.glt hs.size⟩
 refine⟨⟨st,rfl,l,K,N,e3,Y,W,R,Q,?_,fun i=> ?_⟩,h.order.step hs (fun k hk x=>by have:=h.zlt;have:=(c k x (by omega)).1;omega),h.zero,bB h.zlt hs.size,h.most,h.room,h.left,h.bits⟩
 ·rcases u with u|⟨e,m1,m2,m,i,C,G,h5,J,h7⟩
  ·exact .inl u
  ·exact .inr ⟨e,m1,m2,m,hs.at_ i (L e _ i),C.step hs (o _ _ C),G.step hs (o _ _ G),h5,J,h7⟩
 ·have b:=T i;obtain⟨mb,a1,a2,Z⟩:=b.sm;obtain⟨x,y,b2⟩:=b.dm;refine⟨⟨mb,a1,a2.step hs (o _ _ a2),Z⟩,b.sl,⟨x,y,?_⟩,b.dl,b.sn,b.dn⟩;rcases b2 with b2|⟨m2,c1,c2,c3⟩
  ·exact .inl b2
  ·exact .inr ⟨m2,c1,c2.step hs (o _ _ c2),c3⟩
def dJ.YE {d z:Nat}{s:GS}(h:dJ w d f base g off cap z B s v)(hs:Step (·=f) w w'){j a b r n:Nat}{e:aD}(S:bN w' f (.slice (bE j a e.length) e.length b) n r)(m:Go.dM.Src w' j a e)(Q:tK d f v j)(t:j<w'.heap.size)(hp:n<=8*e.length):dJ w' d f base j a b r e { s with p:=n } v:=by
 obtain⟨st,rfl,c,M,N,e3,Z,Y,T,R,y,W⟩:=h.ex;have o:=c.dec.ne;have l:mF w' d f base j a b r e st n:=⟨c.dec.other (hs.block d (aO c.dec.blk) o) (fun k hk=>hs.block k (c.dec.own.lt k hk).2 (fun x=>c.dec.yL.2 (by rw[<-x];exact hk))) hs.size,S,m,Q,t⟩
 have hz:=h.zero;refine⟨⟨st,rfl,l,M,N,e3,Z,Y,T,R,?_,fun A=> ?_⟩,h.order.step hs (fun k hk x=>by omega),h.zero,bB h.zlt hs.size,h.most,h.room,h.left,hp⟩
 ·rcases y with y|⟨cb,m1,m2,J,A,K,L,H,C,I⟩
  ·exact .inl y
  ·exact .inr ⟨cb,m1,m2,J,hs.at_ A H.f,K.step hs C.f,L.step hs I.f,H,C,I⟩
 ·have i:=W A;obtain⟨mb,a1,a2,G⟩:=i.sm;obtain⟨x,u,b2⟩:=i.dm;refine⟨⟨mb,a1,a2.step hs G.f,G⟩,i.sl,⟨x,u,?_⟩,i.dl,i.sn,i.dn⟩;rcases b2 with b2|⟨m2,c1,c2,c3⟩
  ·exact .inl b2
  ·exact .inr ⟨m2,c1,c2.step hs c3.f,c3⟩
variable {k:Nat} {w0 w w':aH} {g off cap f d D X P:Nat} {F:Nat->aK} {B:aD} {most:Nat} {q:RQ} {lv vo v:aK}
def OG.frame (h:OG k w0 w g off cap f d D X B most q lv v)(i:RS k w0 f d D X P F){S:Nat->Prop}(hs:Step S w w')(l:∀j,S j->j<w.heap.size->4<=j/\¬(f<=j/\j<w0.heap.size)/\j≠g/\lv.ownBlock≠some j/\v.ownBlock≠some j/\CG w j):OG k w0 w' g off cap f d D X B most q lv v:=by
 have c1:=i.f4;have c2:=i.fd;have c3:=i.dD;have c4:=i.DP;have H:=i.PN;have I:=h.big;have J:=hs.size;have c:∀j,f<=j->j<w0.heap.size->¬S j:=fun j p C x=>(l j x (by omega)).2.1 ⟨p,C⟩;have n:¬S g:=fun x=>(l g x h.glt).2.2.1 rfl;refine⟨fun a a1 a2 m=> ?_,h.src.step hs n,?_,by have:=h.glt;omega,h.order.step hs (fun j b x=>by have:=(l j x (by omega)).1;omega),h.xat.step hs (fun o=>by have:=i.XP o;exact c X (by omega) (by omega)),kH h.lets hs (fun j b x=>(l j x (h.lets.lt j b).2).2.2.2.1 b),h.ag1,hs.at_ h.feed (c f (by omega) (by omega)),by omega,fun y=>⟨hs.at_ (h.fresh y).1 (c d (by omega) (by omega)),(h.fresh y).2⟩,fun y=> ?_,fun j b=> ?_,h.behind,h.here,h.zp,h.dat.imp fun A y=>hs.at_ y (c d (by omega) (by omega))⟩
 ·rw[<-h.old a a1 a2 m];exact hs.block a (by omega) (c a (by omega) m)
 ·rcases h.AA with y|⟨y,A,z⟩
  ·exact .inl y
  ·exact .inr ⟨y,A,hs.at_ z n⟩
 ·rcases h.inner y with⟨a1,a2⟩|⟨sr,a1,a2⟩
  ·exact .inl ⟨hs.at_ a1 (c d (by omega) (by omega)),a2⟩
  ·refine .inr ⟨sr,a1.frame hs (fun j b s=> ?_),a2⟩;obtain⟨b1,b2,r,G,t,u⟩:=l j b s;exact⟨b1,fun e=>b2 ⟨by omega,by omega⟩,fun e=>b2 ⟨by omega,by omega⟩,r,t,u⟩
 ·obtain⟨a1,a2,m⟩:=h.ar8 j b;exact⟨a1,by omega,m⟩
def OG.YE (h:OG k w0 w g off cap f d D X B most q lv v)(o:RS k w0 f d D X P F)(hs:Step (·=f) w w'){r i l c:Nat}{n:aD}(H:bN w' f (.slice (bE r i (n.drop c).length) (n.drop c).length l) (q.p-8*c) c)(b:uP w' w0.heap.size f r i l (n.drop c))(G:r=0\/w.heap.size<=r)(hp:q.p<=8*n.length)(I:8*c<=q.p):OG k w0 w' r i l f d D X n most { q with z:=c } lv v:=by
 have c1:=o.f4;have c2:=o.fd;have c3:=o.dD;have c4:=o.DP;have N:=o.PN;have Q:=h.big;have M:=hs.size;have u:∀j,v.ownBlock=some j->j≠f/\j≠r:=fun j m=>by
  obtain⟨a1,a2,C⟩:=h.ar8 j m;exact⟨by omega,by rcases G with y|y<;>omega⟩
 refine⟨fun a a1 a2 C=> ?_,b.src,b.AA,b.glt,h.order.step hs (fun j m x=>by omega),h.xat.step hs (fun J x=>by have:=o.XP J;omega),kH h.lets hs (fun j m x=>by have:=(h.lets.lt j m).1;omega),h.ag1,H,by omega,fun y=>⟨hs.at_ (h.fresh y).1 (by omega),(h.fresh y).2⟩,fun y=> ?_,fun j m=> ?_,h.behind,hp,I,h.dat.imp fun A y=>hs.at_ y (by omega)⟩
 ·rw[<-h.old a a1 a2 C];exact hs.block a (by omega) (by omega)
 ·rcases h.inner y with⟨a1,a2⟩|⟨sr,a1,a2,C,L,K,t⟩
  ·exact .inl ⟨hs.at_ a1 (by omega),a2⟩
  ·refine .inr ⟨{ sr with p:=q.p-8*c },a1.YE hs H b.src ⟨by rcases G with y|y<;>omega,by rcases G with y|y<;>omega,fun e=>(u _ e).2 rfl⟩ b.glt (by show q.p-8*c<=8*(n.drop c).length;rw[dX];omega),?_,C,L,K,t⟩;show q.s=({ sr with p:=q.p-8*c }:GS).sh (8*c);rw[a2]at t|-
   unfold GS.sh at t|-
   simp only at t|-
   rw[Nat.sub_add_cancel I,<-t]
 ·obtain⟨a1,a2,C⟩:=h.ar8 j m;exact⟨a1,by omega,(u j m).2⟩
def RQ.flush (q:RQ):RQ:={ q with pre:=q.pre++q.o,o:=[] }
def OG.flush (h:OG k w0 w g off cap f d D X B most q lv v):OG k w0 w g off cap f d D X B most q.flush lv v:=by
 refine⟨h.old,h.src,h.AA,h.glt,h.order,h.xat,h.lets,h.ag1,h.feed,h.big,h.fresh,fun y=> ?_,h.ar8,h.behind,h.here,h.zp,h.dat⟩;rcases h.inner y with⟨a1,a2,a,b,c⟩|⟨sr,a1,a2,a,b,c,e⟩
 ·exact .inl ⟨a1,a2,a,by show q.pre++q.o=[];rw[b,c];rfl,rfl⟩
 ·exact .inr ⟨sr,a1,a2,by show sr.taken=(q.pre++q.o++[]).length;rw[bG];exact a,by show sr.out=q.pre++q.o++[];rw[bG];exact b,c,e⟩
def RV.flush (h:RV k B most q):RV k B most q.flush:=by
 have e:q.flush.pre++q.flush.o=q.pre++q.o:=by show q.pre++q.o++[]=_;rw[bG]
 have c:q.flush.g=q.g:=by
  unfold RQ.g;rw[e];rfl
 refine⟨by rw[e];exact h.bytes,by rw[e];exact h.len,by rw[e];exact h.ay8,by rw[e];exact h.au7,h.al8,fun y=> ?_,h.ile,by rw[e];exact h.sat,h.k1,h.p0,h.p2,by rw[c];exact h.k2,h.k01,h.hh⟩;obtain⟨a,b⟩:=h.ag0 y;exact⟨by show q.pre++q.o=[];rw[a,b];rfl,rfl⟩
def Ck {e:Nat}{out:aD}{used:Nat}{name:aD}:dV k B most q.flush e out used name=dV k B most q e out used name:=by
 have a:q.flush.pre++q.flush.o=q.pre++q.o:=by show q.pre++q.o++[]=_;rw[bG]
 have b:q.flush.g=q.g:=by
  unfold RQ.g;rw[a];rfl
 unfold dV;rw[a,b];rfl
def RV.at_ (h:RV k B most q)(a:Nat):RV k B most { q with z:=a }:=⟨h.bytes,h.len,h.ay8,h.au7,h.al8,h.ag0,h.ile,h.sat,h.k1,h.p0,h.p2,h.k2,h.k01,h.hh⟩
def RV.more (h:RV k B most q)(hp:q.p<=8*B.length)(M:aD):RV k (B++M) most q:=by refine⟨h.bytes,h.len,h.ay8,h.au7,h.al8,h.ag0,h.ile,h.sat,h.k1,h.p0,h.p2,fun e=> ?_,h.k01,h.hh⟩;have c:=h.k2 e;refine⟨fun y=> ?_,c.fl,c.lf,c.ls,c.lb,c.ll,c.nm,c.l6,c.l7⟩;obtain⟨a,b⟩:=c.al y;refine⟨a,?_⟩;rw[b];congr 1;exact(UA (by show q.p/8<=B.length;omega)).symm
def a19 {e:Nat}{out:aD}{used:Nat}{name:aD}(a:Nat):dV k B most { q with z:=a } e out used name=dV k B most q e out used name:=rfl
def as1 (n D:Nat)(K:aH->Prop):Prop:=∀(w w':aH) (j t:Nat) (A:Array aK),t=96\/t=45->w.heap[j]? =some (.cells A t (0,0))->j=D\/n<=j->Step (·=j) w w'->K w->K w'
structure ah9 (w0 w:aH)(base f d D:Nat)(S:Nat->Prop)(x:Nat)(vo:aK)(ys:aD)(used:Nat)(nm:bY)(pt:aK):Prop where
 dec:gQ w D f d pt vo nm
 row:Taken w base vo ys
 step:Step S w0 w
 no:x≠0->used=0
 feed:x=0->∃c z,bN w f c (8*(used-z)) z/\z<=used/\used<=140737488351232
def aC8 (w0 w:aH)(n base f d D:Nat)(S:Nat->Prop)(K:Nat->aK->aD->Nat->bY->aK->aH->Prop)(s:D≠f)(m:S D)(H:∀x vo ys u nm pt,as1 n D (K x vo ys u nm pt))(j:Calls prog 90 #[E D] w fun r w'=>∃(x:Nat) (vo:aK) (ys:aD) (used:Nat) (nm:bY) (pt:aK),r= .returned (V (x:Nat))/\ah9 w0 w' base f d D S x vo ys used nm pt/\K x vo ys used nm pt w'):Calls prog 53 #[E D] w fun r w'=>∃(x:Nat) (vo:aK) (ys:aD) (used:Nat) (nm:bY) (pt:aK),r= .returned (.tuple #[vo,V (x:Nat)])/\Taken w' base vo ys/\ah9 w0 w' base f d D S x (.slice none 0 0) [] used nm pt/\K x vo ys used nm pt w':=by
 go_enter func53,ntmps53;go_wp2_with fail;apply j.mono;rintro r w1 ⟨x,vo,ys,used,nm,pt,rfl,i,hk⟩;have l:=i.dec;have b:=i.row;obtain⟨L,M,t⟩:=b.slice;have a:=hide (show Taken (w1.setCell (U D 3) (.slice none 0 0)) base vo ys/\ah9 w0 (w1.setCell (U D 3) (.slice none 0 0)) base f d D S x (.slice none 0 0) [] used nm pt/\K x vo ys used nm pt (w1.setCell (U D 3) (.slice none 0 0)) from by
  have hs:Step (·=D) w1 (w1.setCell (U D 3) (.slice none 0 0)):=(aU (·=D) w1).setCell (p:=(U D 3)) rfl _;refine⟨fJ b hs (fun k hk x=>kR b l (by decide) (by rw[hk,x])),⟨?_,jJ _ _ _ _,i.step.trans (hs.mono (fun k x=>by subst x;exact m)),i.no,fun y=> ?_⟩,H x vo ys used nm pt w1 _ D _ _ (.inl rfl) l (.inl rfl) hs hk⟩
  ·have I:=aV l 3 (.slice none 0 0);simpa using I
  ·obtain⟨c,z,G,J⟩:=i.feed y;exact⟨c,z,hs.at_ G (fun e=>s e.symm),J⟩)
 have C:=(show w1.cell? (U D 3)=some vo from aC l 3 _ rfl)
 have A:=(show w1.frozen? (U D 3)=false from aJ l 3)
 rw[t]at C a;generalize ys.length=no at*;go_wp2_with fail;go_ret2;exact⟨x,_,ys,used,nm,pt,rfl,a.o⟩
def aA3 (w:aH)(n base f d D:Nat)(S:Nat->Prop)(K:Nat->aK->aD->Nat->bY->aK->aH->Prop)(ai:D≠f)(M:S D)(ae:∀k,S k->k<w.heap.size)(hn:n<=w.heap.size)(hK:∀x vo ys u nm pt,as1 n D (K x vo ys u nm pt))(y:∀w1,O w w1->Calls prog 90 #[E D] w1 fun r w'=>∃(x:Nat) (vo:aK) (ys:aD) (used:Nat) (nm:bY) (pt:aK),r= .returned (V (x:Nat))/\ah9 w1 w' base f d D S x vo ys used nm pt/\K x vo ys used nm pt w'):Calls prog 38 #[E D,E f] w fun r w'=>∃(x:Nat) (vo:aK) (ys:aD) (used:Nat) (nm:bY) (pt:aK),r= .returned (.agg #[V (x:Nat),vo,V used, .string nm])/\Taken w' base vo ys/\gQ w' D f d pt (.slice none 0 0) nm/\Step S w w'/\K x vo ys used nm pt w':=by
 have A:=hide y;have HK:=hide hK;clear y hK;go_enter func38,ntmps38;go_wp2_with fail;obtain⟨R,hR⟩:=aP w.heap.size;obtain⟨w0,m⟩:=aP (w.alloc (.cells #[V 0, .slice none 0 0,V 0, .string ⟨#[]⟩] 45));have G:O w w0:=by rw[m];exact(aU _ _).alloc _
 have ax:w0.heap.size=R+1:=by rw[m,hR];simp
 have Y:w0.heap[R]? =some (.cells #[V 0, .slice none 0 0,V 0, .string ⟨#[]⟩] 45 (0,0)):=by rw[m,hR];exact aR _ _
 have aw:R<=w.heap.size:=by omega
 have au:w.heap.size<=R:=by omega
 rw[<-m,<-hR];clear m hR;apply(aC8 w0 w0 n base f d D S K ai M HK.o (A.o w0 G)).mono;rintro r w1 ⟨e,vo,ys,used,nm,pt,rfl,t,b,hk⟩;have I:=b.dec;obtain⟨l,s,hv⟩:=t.slice;have i:w1.heap[R]? =some (.cells #[V 0, .slice none 0 0,V 0, .string ⟨#[]⟩] 45 (0,0)):=b.step.at_ Y (fun x=>by have:=ae R x;omega);have ag:=(show w1.cell? (U D 4)=some (.string nm) from aC I 4 _ rfl)
 have J:Step S w w1:=(G.mono (fun _ x=>x.elim)).trans b.step;have ar:=J.size;have W:vo.ownBlock≠some R:=kR t i (by decide);have aj:D≠R:=fun x=>by have:=ae D M;omega
 have L:=hide t;have ao:=hide J;have ab:=hide b.feed;have N:=hide W;have HU:=hide b.no;have Q:=hide i;have ad:=hide I;have H:=hide hk;rw[hv]at L N H;rw[hv];have aa:ys.length=ys.length:=rfl;generalize am:ys.length=len at*;have q0:w1.cell? (U R 0)=some (V 0):=aC i 0 _ rfl;have q1:w1.cell? (U R 1)=some (.slice none 0 0):=aC i 1 _ rfl;have q2:w1.cell? (U R 2)=some (V 0):=aC i 2 _ rfl;have q3:w1.cell? (U R 3)=some (.string ⟨#[]⟩):=aC i 3 _ rfl;have g0:=aJ i 0;have g1:=aJ i 1;have g2:=aJ i 2;have g3:=aJ i 3;have ac:=aO i;have C:=hide (show∀w':aH,Step (·=R) w1 w'->Taken w' base (.slice l len s) ys/\gQ w' D f d pt (.slice none 0 0) nm/\Step S w w'/\K e (.slice l len s) ys used nm pt w' from fun w' hs=>by
  refine⟨fJ L.o hs (fun k hk x=>N.o (by rw[hk,x])),hs.at_ ad.o aj,ao.o.trans' hs (fun k hk x=>by omega),HK.o e (.slice l len s) ys used nm pt w1 w' R _ _ (.inr rfl) Q.o (.inr (by omega)) hs H.o⟩)
 clear b G Y i I hv t J W A hk HK H ad Q am aa;go_wp2_with fail;apply(Ud D nm w1 ag).mono;rintro r w2 ⟨rfl,rfl⟩;by_cases he:e=0
 ·subst he;obtain⟨c,z,Z,an,ah⟩:=ab.o rfl;have j:=hide Z;obtain⟨a,ha⟩:=aP (used-z);rw[<-ha]at j;have T:(a:Int)+(z:Int)=(used:Int):=by omega
  have af:=hide T;have av:a<=140737488351232:=by omega
  have ap:z<=140737488351232:=by omega
  clear Z ab ha an ah T;go_wp2_with fail;apply(YA f (8*a) z _ _ ((dG _ _ _ (aO j.o)).trans j.o) (by omega) (by omega)).mono;rintro r w6 ⟨rfl,k,al⟩;subst al;go_wp2_with fail;have b:=(((((((aU (·=R) w2).alloc (.cells #[V 0, .slice l len s,V 0, .string nm] 45)).drewN k).aZ (p:=(U w2.heap.size 2)) (aS _) (V ((z:Int)+(8*(a:Int)+7)/8))).setCell (p:=(U R 0)) rfl (V 0)).setCell (p:=(U R 1)) rfl (.slice l len s)).setCell (p:=(U R 2)) rfl (V ((z:Int)+(8*(a:Int)+7)/8))).setCell (p:=(U R 3)) rfl (.string nm);refine aY (v:= .agg #[V 0, .slice l len s,V ((z:Int)+(8*(a:Int)+7)/8), .string nm]) (by simp[results,results38,go_sem,q0,q1,q2,q3,ac]) rfl ⟨0, .slice l len s,ys,used,nm,pt,?_,C.o _ b⟩;have h8:(z:Int)+(8*(a:Int)+7)/8=(used:Int):=by
   have:=af.o;omega
  rw[h8];rfl
 ·have aq:((e:Int)==0)=false:=aX.2 (by omega);have ak:=hide (HU.o he);clear HU;go_wp2_with fail;have b:=(((((aU (·=R) w2).setCell (p:=(U R 0)) rfl (V e)).setCell (p:=(U R 1)) rfl (.slice l len s)).setCell (p:=(U R 2)) rfl (V 0)).setCell (p:=(U R 3)) rfl (.string nm)).alloc (.cells #[V e, .slice l len s,V 0, .string nm] 45);refine aY (v:= .agg #[V e, .slice l len s,V 0, .string nm]) (by simp[results,results38,go_sem,q0,q1,q2,q3,ac]) rfl ⟨e, .slice l len s,ys,used,nm,pt,?_,C.o _ b⟩;rw[ak.o];rfl
end Go.Proofs.YtbpahojchgpdnaaGreatDoor
