import Derived.Test.YtbpahojchgpdnaaGreatDoorMerges
import Derived.Test.YtbpahojchgpdnaaGreatDoorGCoding
set_option maxRecDepth 20000
set_option maxHeartbeats 4000000
set_option linter.all false
namespace Go.dM
variable {g k:Nat} {w w':aH} {v:aK}
inductive lH (k:Nat):List Pe->List Pe->Prop
 |last (A:List Pe) (h:A.length<=k):lH k A (dU A)
 |cons (A X Y:List Pe) (h:A.length=k) (t:lH k X Y):lH k (A++X) (dU A++Y)
inductive uN (k:Nat):List Pe->List Pe->Prop
 |nil:uN k [] []
 |cons (A X Y:List Pe) (h:A.length=k) (t:uN k X Y):uN k (A++X) (dU A++Y)
def uN.snoc {C D A:List Pe}(h:uN k C D)(a:A.length=k):uN k (C++A) (D++dU A):=by
 induction h with
 |nil=>have:=uN.cons A [] [] a .nil;simpa using this
 |cons B X Y b t ih=>have:=uN.cons B _ _ b ih;simpa using this
def uN.end {C D A:List Pe}(h:uN k C D)(a:A.length<=k):lH k (C++A) (D++dU A):=by
 induction h with
 |nil=>exact .last A a
 |cons B X Y b t ih=>have:=lH.cons B _ _ b ih;simpa using this
def uN.length {C D:List Pe}(h:uN k C D):D.length=C.length:=by
 induction h with
 |nil=>rfl
 |cons B X Y a t ih=>simp[eT,ih]
def lH.length {C D:List Pe}(h:lH k C D):D.length=C.length:=by
 induction h with
 |last A h=>exact eT A
 |cons B X Y a t ih=>simp[eT,ih]
def lH.all {X Y:List Pe}(h:lH k X Y)(c:X.length<=k):Y=dU X:=by
 cases h with
 |last A h=>rfl
 |cons A X Y d t=>
  have a:X=[]:=kP (by simp at c;omega);subst a;have b:Y=[]:=kP (by rw[t.length];rfl);rw[b];simp
def lH.split {X Y:List Pe}(h:lH k X Y)(d:k<=X.length):∃A a b,X=A++a/\A.length=k/\Y=dU A++b/\lH k a b:=by
 cases h with
 |last A h=>exact⟨X,[],[],by simp,by omega,by simp,lH.last [] (by simp)⟩
 |cons A X Y c t=>exact⟨A,X,Y,rfl,c,rfl,t⟩
end Go.dM
namespace Go.Proofs.YtbpahojchgpdnaaGreatDoor
open Go.RowKit Go.Shelf Go.Lib Go.Sort Go.dM Go.Proofs.Tryz
variable {g k:Nat} {w w':aH} {v:aK}
set_option maxRecDepth 100000 in
def ay3 (blk off cap a b:Nat)(P X S d:List Pe)(w0 w:aH)(R:RowK Pe.enc 2 w0 blk off d.toArray)(hs:d.length=(P++X++S).length)(H:mX w0 blk off (P++X++S) w)(i:a=P.length)(j:b=P.length+X.length)(f:d.length<4611686018427387904):Calls prog 221 #[.slice (some (U blk off)) d.length cap,V a,V b,Tx] w fun e w'=>e= .returned (.tuple #[])/\mX w0 blk off (P++dU X++S) w':=by
 have c:(P++X++S).toArray.size=d.length:=by rw[hs];simp
 have h:=AnyQ.insertionSortCmpFunc insLaid 2 (fun _=>rfl) (fun _=>rfl) Pe.enc Cm Aw cfE 208 #[] blk off cap a b (P++X++S).toArray w
  (fun _ _=>rfl) (aD6 _ _ _ _) (SWK.holds H R.hblk R.hH (by rw[c];simp)) (SWK.lt H R.hblk) (by omega) (by rw[c,hs];simp;omega) (by rw[c];exact f)
 rw[c]at h;apply h.mono;rintro e w' ⟨rfl,n,os,rfl⟩;refine⟨rfl,?_⟩;rw[ltE,i,j,YX];exact SWK.on H R.hblk _ _ _ (by simp[eT])
set_option maxHeartbeats 8000000 in
set_option maxRecDepth 1000000 in
def Rz (blk off cap:Nat)(c:List Pe)(w0 w:aH)(R:RowK Pe.enc 2 w0 blk off c.toArray)(H:mX w0 blk off c w)(ah:c.length<1073741824):Calls prog 216 #[.slice (some (U blk off)) c.length cap,V c.length,Tx] w fun e w'=>e= .returned (.tuple #[])/\mX w0 blk off (dU c) w':=by
 have H0:=hide H;have HR:=hide R
 have ci:∀(a b:Nat) (P X S:List Pe) (W:aH),(P++X++S).length=c.length->mX w0 blk off (P++X++S) W->a=P.length->b=P.length+X.length->
   Calls prog 221 #[.slice (some (U blk off)) c.length cap,V (a:Nat),V (b:Nat), .func (.func 208) #[] #[]] W fun e w'=>e= .returned (.tuple #[])/\mX w0 blk off (P++dU X++S) w':=
  fun a b P X S W L q h3 h4=>ay3 blk off cap a b P X S c w0 W R L.symm q h3 h4 (by omega)
 have cm:∀(a m b:Nat) (P A B S:List Pe) (W:aH),(P++dU A++dU B++S).length=c.length->mX w0 blk off (P++dU A++dU B++S) W->a=P.length->m=P.length+A.length->b=P.length+A.length+B.length->0<A.length->0<B.length->
   Calls prog 222 #[.slice (some (U blk off)) c.length cap,V (a:Nat),V (m:Nat),V (b:Nat), .func (.func 208) #[] #[]] W fun e w'=>e= .returned (.tuple #[])/\mX w0 blk off (P++dU (A++B)++S) w':=
  fun a m b P A B S W L q h3 h4 h5 h6 h7=>by
   rw[yI];exact IJ _ blk off cap a m b P (dU A) (dU B) S c w0 W R L.symm q h3 (by rw[eT];exact h4) (by rw[eT,eT];exact h5) (by rw[eT];exact h6) (by rw[eT];exact h7) (uR A) (uR B) (aS _) (by omega)
 have CI:=hide ci;have CM:=hide cm;obtain⟨n,hn⟩:∃n,c.length=n:=⟨_,rfl⟩
 rw[hn]at CI CM ah|-
 have HN:=hide hn;clear H R ci cm hn;unfold Tx;go_enter func216,ntmps216;go_wp2_with fail;go_loopg [7,8] n (fun kx s7 s8 wr=>∃(a:Nat) (C X D:List Pe),s7=V (a:Nat)/\s8=V ((a+20:Nat):Int)/\a<=n/\kx=n-a/\Hid (c=C++X/\a=C.length/\uN 20 C D)/\Hid (mX w0 blk off (D++X) wr));case atStart=>exact⟨0,[],c,[],rfl,rfl,by omega,rfl,⟨rfl,rfl, .nil⟩,H0⟩
 case round=>
  clear H0;obtain⟨a,C,X,D,rfl,rfl,ac,ar,t,l⟩:=hrel;by_cases af:a+20<=n
  ·obtain⟨p,x,j⟩:=t.o;obtain⟨b,I⟩:=aP (a+20);rw[<-I];have s:(b:Int)<=(n:Int):=(by omega);have i:X.length=n-a:=(by have:=HN.o;rw[p]at this;simp at this;omega);have lt:(X.take 20).length=20:=(by rw[dF];omega);have k:=CI.o a b D (X.take 20) (X.drop 20) wr (by rw[dB,pJ];simp[j.length];omega) (by rw[dB,pJ];exact l.o) (by rw[j.length];exact x) (by rw[j.length,lt];omega);have n1:Hid (c=(C++X.take 20)++X.drop 20/\b=(C++X.take 20).length/\uN 20 (C++X.take 20) (D++dU (X.take 20))):=⟨by rw[dB,pJ];exact p,by rw[aN,lt];omega,j.snoc lt⟩
   have K:=hide k;have HB:=hide I;clear p x j i lt k I t l;go_wp2_with (go_at_call 221;apply K.o.mono;rintro e w' ⟨rfl,q⟩);go_roundg (n-b);case measure=>have:=HB.o;omega
   case rel=>exact⟨b,C++X.take 20,X.drop 20,D++dU (X.take 20),rfl,by first|rfl|go_num,by omega,rfl,n1,q⟩
  ·have s:¬((a+20:Nat):Int)<=(n:Int):=(by omega);obtain⟨p,x,j⟩:=t.o;have i:X.length=n-a:=(by have:=HN.o;rw[p]at this;simp at this;omega);have k:=CI.o a n D X [] wr (by simp[j.length];omega) (by simpa using l.o) (by rw[j.length];exact x) (by rw[j.length];omega);have n1:Hid (lH 20 c (D++dU X)):=(by rw[p];exact j.end (by omega));have K:=hide k;clear p x j i k t l CI;go_wp2_with (go_at_call 221;apply K.o.mono;rintro e w' ⟨rfl,q⟩);obtain⟨w1,F⟩:=aP w';have H1:Hid (mX w0 blk off (D++dU X) w1):=(by show mX _ _ _ _ _;rw[F];simpa using q);rw[<-F];clear F q K;go_loopg [6,7,8,9] (n-20) (fun kx s6 s7 s8 s9 wq=>∃(f:Nat) (Y:List Pe) (v7 v8 v9:aK),s6=V f/\s7=v7/\s8=v8/\s9=v9/\20<=f/\f<=2147483648/\kx=n-f/\Hid (lH f c Y)/\Hid (mX w0 blk off Y wq));case atStart=>exact⟨20,_,_,_,_,rfl,rfl,rfl,rfl,by omega,by omega,by omega,n1,H1⟩
   case round=>
    clear H1 n1;obtain⟨f,Y,v7,v8,v9,rfl,rfl,rfl,rfl,al,am,aj,HC,l⟩:=hrel;by_cases au:f<n
    ·have Q:(f:Int)<(n:Int):=(by omega);have y:(f:Int)<=2147483648:=(by omega);obtain⟨w2,aa⟩:=aP wr;rw[<-aa]at l|-
     clear aa;go_wp2_with fail;obtain⟨d,hd⟩:∃d:Nat,(d:Int)=2*(f:Int):=⟨2*f,by omega⟩
     rw[<-hd];have M:d=2*f:=(by omega);have ab:=hide M;have aq:(2:Int)*(f:Int)=(d:Int):=(by omega);have ao:d<=2*1073741824:=(by omega);clear hd M;go_loopg [7,8] n (fun kx s7 s8 wq=>∃(a:Nat) (C X D Z:List Pe),s7=V (a:Nat)/\s8=V ((a:Int)+(d:Int))/\a<=n/\kx=n-a/\Hid (c=C++X/\a=C.length/\uN d C D/\lH f X Z)/\Hid (mX w0 blk off (D++Z) wq));case atStart=>exact⟨0,[],c,[],Y,rfl,by simp,by omega,rfl,⟨rfl,rfl, .nil,HC.o⟩,l⟩
     case round=>
      obtain⟨a,C,X,D,Z,rfl,rfl,ac,ak,t,l⟩:=hrel;obtain⟨p,x,j,J⟩:=t.o;have i:X.length=n-a:=(by have:=HN.o;rw[p]at this;simp at this;omega);have z:=ab.o;by_cases af:a+d<=n
      ·obtain⟨b,I⟩:=aP (a+d);obtain⟨m,hm⟩:=aP (a+f);have y:(a:Int)+(d:Int)=(b:Int):=(by omega);have ag:(a:Int)+(f:Int)=(m:Int):=(by omega);rw[y];have s:(b:Int)<=(n:Int):=(by omega);obtain⟨A,X1,Z1,rfl,hA,rfl,t1⟩:=J.split (by omega);rw[aN]at i;obtain⟨B,X2,Z2,rfl,hB,rfl,t2⟩:=t1.split (by omega);rw[aN]at i;have ai:=t2.length;have u:=j.length;have k:=CM.o a m b D A B Z2 wr (by simp only[aN,eT];omega) (by simpa using l.o) (by omega) (by omega) (by omega) (by omega) (by omega)
       have n1:Hid (c=(C++(A++B))++X2/\b=(C++(A++B)).length/\uN d (C++(A++B)) (D++dU (A++B))/\lH f X2 Z2):=
        ⟨by rw[p];simp,by simp only[aN];omega,j.snoc (by simp only[aN];omega),t2⟩
       have K:=hide k;have ad:b<=n:=(by omega);have HB:=hide I;have an:a<b:=(by omega);clear p x j J t1 t2 i k I y t l hA hB ai u z hm;go_wp2_with (go_at_call 222;apply K.o.mono;rintro e w' ⟨rfl,q⟩);go_roundg (n-b);case measure=>omega
       case rel=>exact⟨b,C++(A++B),X2,D++dU (A++B),Z2,rfl,by first|rfl|go_num,ad,rfl,n1,q⟩
      ·have s:¬(a:Int)+(d:Int)<=(n:Int):=(by omega);have u:=j.length;obtain⟨m,hm⟩:=aP (a+f);have ag:(a:Int)+(f:Int)=(m:Int):=(by omega);have ap:(f:Int)*2=(d:Int):=(by omega);by_cases av:m<n
       ·have T:(m:Int)<(n:Int):=(by omega);obtain⟨A,X1,Z1,rfl,hA,rfl,t1⟩:=J.split (by omega);rw[aN]at i;have G:=t1.all (by omega);subst G;have k:=CM.o a m n D A X1 [] wr (by simp only[aN,eT,pE];omega) (by simpa using l.o) (by omega) (by omega) (by omega) (by omega) (by omega);have n1:Hid (lH d c (D++dU (A++X1))):=(by show lH d c _;rw[p];exact j.end (by simp only[aN];omega));have K:=hide k;have ae:n-d<n-f:=(by omega);have r:20<=d/\d<=2147483648:=(by omega);clear p x j J t1 i k t l hA u z hm;go_wp2_with (go_at_call 222;apply K.o.mono;rintro e w' ⟨rfl,q⟩);go_roundg (n-d);case measure=>omega
        case rel=>exact⟨d,D++dU (A++X1),_,_,_,by first|rfl|go_num,rfl,rfl,rfl,r.1,r.2,rfl,n1,by have:=q;simp only[bG]at this;exact this⟩
       ·have T:¬(m:Int)<(n:Int):=(by omega);have G:=J.all (by omega);subst G;have n1:Hid (lH d c (D++dU X)):=(by show lH d c _;rw[p];exact j.end (by omega));have ae:n-d<n-f:=(by omega);have r:20<=d/\d<=2147483648:=(by omega);clear p x j J i t u z hm;go_wp2_with fail;go_roundg (n-d);case measure=>omega
        case rel=>exact⟨d,D++dU X,_,_,_,by first|rfl|go_num,rfl,rfl,rfl,r.1,r.2,rfl,n1,l⟩
    ·have Q:¬(f:Int)<(n:Int):=(by omega);have N:Hid (mX w0 blk off (dU c) wr):=by
      have L:=HC.o.all (by have:=HN.o;omega);rw[<-L];exact l.o
     clear HC l;go_wp2_with fail;go_end0;exact⟨rfl,N.o⟩
def cellsE:List Pe->List aK
 |[]=>[]
 |p::l=>V (p.c:Nat)::p.v::cellsE l
def tJ:∀l:List Pe,(cellsE l).length=l.length*2
 |[]=>rfl
 |p::l=>by simp[cellsE,tJ l];omega
def xK:∀l r:List Pe,cellsE (l++r)=cellsE l++cellsE r
 |[],r=>rfl
 |p::l,r=>by simp[cellsE,xK l r]
def zQ:∀(l:List Pe) (u:aK),u∈cellsE l->u.oneCell'=true
 |[],u,h=>by simp[cellsE]at h
 |p::l,u,h=>by
  simp only[cellsE,fE]at h
  rcases h with rfl|rfl|h
  ·rfl
  ·rfl
  ·exact zQ l u h
def F6:∀(l:List Pe) (i:Nat),i<l.length->(cellsE l)[i*2]? =some (V ((iI l i).c:Nat))/\(cellsE l)[i*2+1]? =some (iI l i).v
 |[],i,h=>by simp at h
 |p::l,0,h=>⟨rfl,rfl⟩
 |p::l,i+1,h=>by
  have a:=F6 l i (by simpa using h)
  rw[show(i+1)*2=i*2+1+1 by omega]
  exact a
def vP (w:aH)(g:Nat)(l:List Pe):Prop:=∀i,i<l.length->w.cell? ⟨g,i*2,none⟩=some (V ((iI l i).c:Nat))/\w.cell? ⟨g,i*2+1,none⟩=some (iI l i).v/\w.frozen? ⟨g,i*2,none⟩=false/\w.frozen? ⟨g,i*2+1,none⟩=false
def vP.holds {l:List Pe}(h:vP w g l):HoldsK Pe.enc 2 w g 0 l.toArray:=by
 intro j a;rw[size_flatK]at a;rw[get_flatK _ _ _ _ a,kI,dS];have f:j/2<l.length:=by simp at a;omega
 obtain⟨c,d,b,f1⟩:=h (j/2) f;rcases JO j with e|e
 ·rw[show j/2*2=j by omega]at c b;rw[e];exact⟨c,b⟩
 ·rw[show j/2*2+1=j by omega]at d f1;rw[e];exact⟨d,f1⟩
def vP.ac2 {l:List Pe}(h:HoldsK Pe.enc 2 w g 0 l.toArray):vP w g l:=by
 intro i hi;have a:i<l.toArray.size:=by simpa using hi
 have b:=h.cell a (show 0<2 by omega);have c:=h.cell a (show 1<2 by omega);rw[kI,dS]at b c;exact⟨b.1,c.1,b.2,c.2⟩
def vP.cells {l:List Pe}(h:vP w g l)(j:Nat)(u:aK)(a:(cellsE l)[j]? =some u):w.cell? (U g j)=some u:=by
 have i:=BD.1 a |>.1
 rw[tJ]at i;obtain⟨d,f,_,_⟩:=h (j/2) (by omega);obtain⟨b,c⟩:=F6 l (j/2) (by omega);rcases JO j with e|e
 ·rw[show j/2*2=j by omega]at d b;rw[b]at a;rw[d,<-a]
 ·rw[show j/2*2+1=j by omega]at f c;rw[c]at a;rw[f,<-a]
def vP.of_cells {l:List Pe}(h:∀j u,(cellsE l)[j]? =some u->w.cell? (U g j)=some u)(f:∀j,j<l.length*2->w.frozen? (U g j)=false):vP w g l:=by intro i hi;obtain⟨a,b⟩:=F6 l i hi;exact⟨h _ _ a,h _ _ b,f _ (by omega),f _ (by omega)⟩
def vP.step {l:List Pe}{S:Nat->Prop}(h:vP w g l)(hs:Step S w w')(f:¬S g)(d:g<w.heap.size):vP w' g l:=by intro i hi;obtain⟨b,c,a,f1⟩:=h i hi;have e:=hs.block g d f;exact⟨(vF (w:=w) e).trans b,(vF (w:=w) e).trans c,(World.frozen?_of_block (w:=w) e).trans a,(World.frozen?_of_block (w:=w) e).trans f1⟩
def vL (w:aH)(v:aK)(l:List Pe):Prop:=(v= .slice none 0 0/\l=[])\/∃g cap,v= .slice (some (U g 0)) l.length cap/\l.length<=cap/\g<w.heap.size/\vP w g l
def vL.step {l:List Pe}(h:vL w v l)(hs:O w w'):vL w' v l:=by
 rcases h with h|⟨g,cap,a,b,c,d⟩
 ·exact .inl h
 ·exact .inr ⟨g,cap,a,b,by have:=hs.size;omega,d.step hs (fun y=>y) c⟩
def vL.D6 {base:Nat}{l:List Pe}(h:w.ownsRow base 243 2 v l.length (cellsE l)):vL w v l:=by
 have n:=h;obtain⟨p,⟨d,hn⟩|⟨g,cap,e,d,o,hh,b,f,i,m⟩⟩:=h
 ·exact .inl ⟨d,kP hn⟩
 ·refine .inr ⟨g,cap,d,b,aO hh,vP.of_cells (fun j u c=> ?_) (fun j a=> ?_)⟩
  ·refine aC hh j u ?_;have a:=BD.1 c |>.1
   rw[tJ]at a;rw[<-m,jQ a]at c;rw[<-c];simp
  ·exact aJ hh j
def EF (w:aH)(p:Pe):Prop:=p.s.length<=p.cap/\p.g<w.heap.size/\∀j x,p.s[j]? =some x->w.cell? (U p.g j)=some (V (x:Nat))
def EF.step {p:Pe}{S:Nat->Prop}(h:EF w p)(hs:Step S w w')(a:¬S p.g):EF w' p:=⟨h.1,by have:=hs.size;have:=h.2.1;omega,fun j x b=>(vF (w:=w) (hs.block p.g h.2.1 a)).trans (h.2.2 j x b)⟩
def mX.step {w0 W:aH}{blk off:Nat}{l:List Pe}(h:mX w0 blk off l W):Step (fun k=>k=blk) w0 W:=by
 obtain⟨n,os,rfl⟩:=h;refine⟨rfl,rfl,rfl,?_,fun k hk hn=> ?_⟩
 ·simp[sortWorldK,grow,putRowK,putRow,mapBlock]
 ·simp only[sortWorldK,grow,putRowK,putRow,mapBlock];rw[Array.getElem?_append_left (by simpa using hk),Array.getElem?_modify,aB (fun e=>hn e.symm)];rfl
end Go.Proofs.YtbpahojchgpdnaaGreatDoor
namespace Go.dM
variable {g k:Nat} {w w':aH} {v:aK}
structure Pt where
 v:aK
 m:Nat
 xs:List aK
def Pt.ok (w:aH)(size:Nat)(p:Pt):Prop:=p.xs.length=p.m*size/\(∀u∈p.xs,u.oneCell'=true)/\∃ao c,p.v= .slice ao p.m c/\(ao=none->p.m=0/\c=0)/\∀ad,ao=some ad->∀j u,p.xs[j]? =some u->w.cell? (ad.add j)=some u
def kK (R:List Pt)(j:Nat):Nat:=((R.take j).map (·.m)).sum
def allM (R:List Pt):List aK:=R.flatMap (·.xs)
def yC {R:List Pt}{j:Nat}{r:Pt}(h:R[j]? =some r):kK R (j+1)=kK R j+r.m:=by unfold kK;rw[jE,h];simp
def X3 {R:List Pt}{j:Nat}{r:Pt}(h:R[j]? =some r):allM (R.take (j+1))=allM (R.take j)++r.xs:=by unfold allM;rw[jE,h];simp
def CX (R:List Pt)(j d:Nat):kK R j<=kK R (j+d):=by
 induction d with
 |zero=>exact aS _
 |succ d ih=>
  refine bB ih ?_;cases h:R[j+d]? with
  |none=>
   have:kK R (j+d+1)=kK R (j+d):=(by unfold kK;rw[jE,h];simp);rw[<-iV,this];exact aS _
  |some r=>rw[<-iV,yC h];omega
end Go.dM
namespace Go.Proofs.YtbpahojchgpdnaaGreatDoor
open Go.RowKit Go.Lib Go.dM Go.Proofs.Tryz
variable {g k:Nat} {w w':aH} {v:aK}
def YZ:(prog.info? 243).map (fun i=>(i.zero,i.size,i.bytes))=some (some (.agg #[V 0, .slice none 0 0]),2,32):=by kernel_rfl
def OY:prog.underlying 240=some (.slice 243):=by kernel_rfl
def Step.of_below (h:Below w.heap.size w w'):O w w':=⟨h.os,h.tape,h.output,h.size,fun k hk _=>h.block k hk⟩
def az5 (n:Nat)(w:aH)(p:1<=n)(hn:n<=1000000):Calls prog 158 #[.slice none 0 0,V n] w fun e w'=>∃cap,e= .returned (.slice (some (U w.heap.size 0)) 0 cap)/\n<=cap/\cap<=maxLen/\(∃c:Array aK,c.size=cap*1/\w'=w.drew.alloc (.cells c 3 (0,0))):=by
 obtain⟨r,hi,q,z,j⟩:=eD info3;have hold:(Builtin.firstCells r.size 0 (.slice none 0 0)).run prog w.drew= .ok ([]:List aK).toArray w.drew:=OH w.drew r.size 0 0 0;have b:∀u,_:=fun u=>Lib.run_append_grow_zeros (P:=prog) w 57 3 u 3 r (V 0) .i64 .i64 underlying57 underlying3 hi q none 0 0 [] hold n p (by omega) (by omega) (by omega) (by rw[j];omega) (by rw[j];simp[Builtin.nextslicecap];split<;>omega);simp only[dS]at b;have f:=grownCap_ge w n 0 3;have a:=I5 w n 0 3 (by unfold maxLen;omega);obtain⟨G,s⟩:=aP (grownCap w n 0 3);rw[<-s]at b f a;clear s;obtain⟨c,d⟩:∃c:Array aK,c=([]:List aK).toArray++Builtin.zeroCells (V 0).cells n++Builtin.zeroCells (V 0).cells (G-n):=⟨_,rfl⟩
 rw[<-d]at b;have i:c.size=G*1:=by
  rw[d,zJ,zJ,jI,jI,show(V 0).cells.size=1 from rfl];simp;omega
 have x:=hide i;have l:=hide f;have m:=hide a;have t:(G:Int)<=9223372036854775807:=by unfold maxLen at a;omega
 have y:(0:Int)<(n:Int):=by omega
 clear d i f a hold;go_enter func158,ntmps158;go_wp2_with (at_builtin;refine Lib.wpList_append_run _ rfl _ _ _ _ rfl _ _ rfl rfl _ _ (b _) ?_);go_ret;exact⟨G,rfl,l.o,m.o,c,x.o,rfl⟩
def aj5 (a n cap:Nat)(R:List Pt)(w:aH)(ae:R.length=n)(ak:n<=cap)(aj:n<=1000)(ha:∀j r,R[j]? =some r->w.cell? (U a j)=some r.v)(hb:∀r∈R,r.ok w 1)(hp:1<=kK R n)(hR:kK R n<=1000000):Calls prog 132 #[.slice (some (U a 0)) n cap] w fun e w'=>∃c',e= .returned (.slice (some (U w.heap.size 0)) (kK R n) c')/\w'.ownsRow w.heap.size 3 1 (.slice (some (U w.heap.size 0)) (kK R n) c') (kK R n) (allM R)/\O w w':=by
 obtain⟨i0,hi,am,aa,an⟩:=eD info3;have HA:=hide ha;have HB:=hide hb;clear ha hb;go_enter func132,ntmps132;go_wp2_with fail;go_loopw [3,11] (fun sz i wr=>∃j:Nat,j<=n/\i=V (j:Nat)/\sz=V (kK R j:Nat)/\w=wr) (fun _ i _=>n-(intOf i).toNat);case atStart=>exact⟨0,by omega,rfl,rfl,rfl⟩
 case round=>
  obtain⟨j,hj,rfl,rfl,rfl⟩:=hrel;by_cases ag:j<n
  ·obtain⟨r,t⟩:∃r,R[j]? =some r:=⟨_,bV (by omega)⟩
   have G:=HA.o j _ t;obtain⟨P,c,l,_⟩:=(HB.o r (nZ t)).2.2;rw[l]at G;have hs:kK R (j+1)=kK R j+r.m:=yC t;have D:=CX R (j+1) (n-(j+1));rw[show j+1+(n-(j+1))=n by omega]at D;obtain⟨m,I⟩:=aP r.m;rw[<-I]at hs G;obtain⟨S,A⟩:=aP (kK R j);rw[<-A]at hs;rw[hs]at D;rw[<-A];have HS:=hide hs;have ai:(S:Int)+(m:Int)<=1000000:=(by omega);clear hs A t I l hR hp D;have ab:(j:Int)<(n:Int):=(by omega);go_wp2_with fail;go_roundw;case rel=>exact⟨j+1,by omega,by go_num,by rw[HS.o];go_num,bT⟩
   case measure=>simp[intOf];omega
  ·obtain rfl:j=n:=by omega
   go_wp2_with (go_at_call 158;apply(az5 (kK R j) _ hp hR).mono;rintro e w1 ⟨c1,rfl,W,X,Q,af,al⟩)
   have d:(w.alloc (.cells Q 3 (0,0))).drew.ownsRow w.heap.size 3 1 (.slice (some (U w.heap.size 0)) 0 c1) 0 []:=
    ⟨by simp, .inr ⟨w.heap.size,c1,Q,rfl,aS _,aR _ _,by omega,X,by omega,by simp⟩⟩
   have b:Below w.heap.size w (w.alloc (.cells Q 3 (0,0))).drew:=((qK w.heap.size w).alloc (aS _) _).drew;go_loopw [6,27] (fun s i wr=>∃k:Nat,k<=j/\i=V k/\s= .slice (some (U w.heap.size 0)) (kK R k) c1/\wr.ownsRow w.heap.size 3 1 (.slice (some (U w.heap.size 0)) (kK R k) c1) (kK R k) (allM (R.take k))/\Below w.heap.size w wr) (fun _ i _=>j-(intOf i).toNat);case atStart=>exact⟨0,by omega,rfl,rfl,d,b⟩
   case round=>
    obtain⟨k,hk,rfl,rfl,d,b⟩:=hrel;by_cases ah:k<j
    ·obtain⟨r,t⟩:∃r,R[k]? =some r:=⟨_,bV (by omega)⟩
     have C:=HA.o k _ t;have G:=(b.cell (p:=(U a k)) (kF w _ C)).trans C;obtain⟨x,y,P,c,l,J,K⟩:=HB.o r (nZ t);rw[l]at G;have hs:kK R (k+1)=kK R k+r.m:=yC t;have F:allM (R.take (k+1))=allM (R.take k)++r.xs:=X3 t;have f:kK R k+r.m<=c1:=by
      have:=CX R (k+1) (j-(k+1));rw[show k+1+(j-(k+1))=j by omega]at this;have:=W;omega
     have z:∀M,P=some M->∀i u,r.xs[i]? =some u->wr.cell? (M.add i)=some u:=by
      intro M T i u hu;have h1:=K M T i u hu;have Y:=kF w _ h1;exact(b.cell Y).trans h1
     obtain⟨m,I⟩:=aP r.m;obtain⟨xs,L⟩:=aP r.xs;rw[<-I]at hs G f J x;rw[<-L]at F z y x;obtain⟨S,A⟩:=aP (kK R k);rw[<-A]at hs f d;rw[<-A];have N:=hide x;clear A t C K I L l x;have ac:(k:Int)<(j:Int):=(by omega);go_wp2_with (at_builtin;refine wpList_append_fits_any _ rfl (.tmp 31) (.tmp 32) 57 rfl w.heap.size 3 i0 1 underlying57 hi aa w.heap.size S c1 (allM (R.take k)) rfl d P m c xs rfl N.o J z y f ?_;intro w2 Z H);have B:=b.grown H b.size (fun q hq=>by cases hq;exact aS _);go_roundw;case rel=>exact⟨k+1,by omega,by go_num,by rw[hs],by rw[hs,F];exact Z,B⟩
     case measure=>simp[intOf];omega
    ·obtain rfl:k=j:=by omega
     go_wp2_with fail;go_ret;refine⟨c1,rfl,?_,Step.of_below b⟩;have:=d;rw[kW (by omega)]at this;exact this
def aA5 (n:Nat)(w:aH)(p:1<=n)(hn:n<=1000000):Calls prog 215 #[.slice none 0 0,V n] w fun e w'=>∃cap,e= .returned (.slice (some (U w.heap.size 0)) 0 cap)/\n<=cap/\cap<=maxLen/\(∃c:Array aK,c.size=cap*2/\w'=w.drew.alloc (.cells c 243 (0,0))):=by
 obtain⟨r,hi,q,z,j⟩:=eD YZ;have hold:(Builtin.firstCells r.size 0 (.slice none 0 0)).run prog w.drew= .ok ([]:List aK).toArray w.drew:=OH w.drew r.size 0 0 0;have b:∀u,_:=fun u=>Lib.run_append_grow_zeros (P:=prog) w 240 3 u 243 r (Value.agg #[V 0, .slice none 0 0]) .i64 .i64 OY underlying3 hi q none 0 0 [] hold n p (by omega) (by omega) (by omega) (by rw[j];omega) (by rw[j];simp[Builtin.nextslicecap];split<;>omega);simp only[dS]at b;have f:=grownCap_ge w n 0 243;have a:=I5 w n 0 243 (by unfold maxLen;omega);obtain⟨G,s⟩:=aP (grownCap w n 0 243);rw[<-s]at b f a;clear s;obtain⟨c,d⟩:∃c:Array aK,c=([]:List aK).toArray++Builtin.zeroCells (Value.agg #[V 0, .slice none 0 0]).cells n++Builtin.zeroCells (Value.agg #[V 0, .slice none 0 0]).cells (G-n):=⟨_,rfl⟩
 rw[<-d]at b;have i:c.size=G*2:=by
  rw[d,zJ,zJ,jI,jI,show(Value.agg #[V 0, .slice none 0 0]).cells.size=2 from rfl];simp;omega
 have x:=hide i;have l:=hide f;have m:=hide a;have t:(G:Int)<=9223372036854775807:=by unfold maxLen at a;omega
 have y:(0:Int)<(n:Int):=by omega
 clear d i f a hold;go_enter func215,ntmps215;go_wp2_with (at_builtin;refine Lib.wpList_append_run _ rfl _ _ _ _ rfl _ _ rfl rfl _ _ (b _) ?_);go_ret;exact⟨G,rfl,l.o,m.o,c,x.o,rfl⟩
def an9 (a n cap:Nat)(R:List Pt)(w:aH)(ae:R.length=n)(ak:n<=cap)(aj:n<=1000)(ha:∀j r,R[j]? =some r->w.cell? (U a j)=some r.v)(hb:∀r∈R,r.ok w 2)(hp:1<=kK R n)(hR:kK R n<=1000000):Calls prog 206 #[.slice (some (U a 0)) n cap] w fun e w'=>∃c',e= .returned (.slice (some (U w.heap.size 0)) (kK R n) c')/\w'.ownsRow w.heap.size 243 2 (.slice (some (U w.heap.size 0)) (kK R n) c') (kK R n) (allM R)/\O w w':=by
 obtain⟨i0,hi,am,aa,an⟩:=eD YZ;have HA:=hide ha;have HB:=hide hb;clear ha hb;go_enter func206,ntmps206;go_wp2_with fail;go_loopw [3,11] (fun sz i wr=>∃j:Nat,j<=n/\i=V (j:Nat)/\sz=V (kK R j:Nat)/\w=wr) (fun _ i _=>n-(intOf i).toNat);case atStart=>exact⟨0,by omega,rfl,rfl,rfl⟩
 case round=>
  obtain⟨j,hj,rfl,rfl,rfl⟩:=hrel;by_cases ag:j<n
  ·obtain⟨r,t⟩:∃r,R[j]? =some r:=⟨_,bV (by omega)⟩
   have G:=HA.o j _ t;obtain⟨P,c,l,_⟩:=(HB.o r (nZ t)).2.2;rw[l]at G;have hs:kK R (j+1)=kK R j+r.m:=yC t;have D:=CX R (j+1) (n-(j+1));rw[show j+1+(n-(j+1))=n by omega]at D;obtain⟨m,I⟩:=aP r.m;rw[<-I]at hs G;obtain⟨S,A⟩:=aP (kK R j);rw[<-A]at hs;rw[hs]at D;rw[<-A];have HS:=hide hs;have ai:(S:Int)+(m:Int)<=1000000:=(by omega);clear hs A t I l hR hp D;have ab:(j:Int)<(n:Int):=(by omega);go_wp2_with fail;go_roundw;case rel=>exact⟨j+1,by omega,by go_num,by rw[HS.o];go_num,bT⟩
   case measure=>simp[intOf];omega
  ·obtain rfl:j=n:=by omega
   go_wp2_with (go_at_call 215;apply(aA5 (kK R j) _ hp hR).mono;rintro e w1 ⟨c1,rfl,W,X,Q,af,al⟩)
   have d:(w.alloc (.cells Q 243 (0,0))).drew.ownsRow w.heap.size 243 2 (.slice (some (U w.heap.size 0)) 0 c1) 0 []:=
    ⟨by simp, .inr ⟨w.heap.size,c1,Q,rfl,aS _,aR _ _,by omega,X,by omega,by simp⟩⟩
   have b:Below w.heap.size w (w.alloc (.cells Q 243 (0,0))).drew:=((qK w.heap.size w).alloc (aS _) _).drew;go_loopw [6,27] (fun s i wr=>∃k:Nat,k<=j/\i=V k/\s= .slice (some (U w.heap.size 0)) (kK R k) c1/\wr.ownsRow w.heap.size 243 2 (.slice (some (U w.heap.size 0)) (kK R k) c1) (kK R k) (allM (R.take k))/\Below w.heap.size w wr) (fun _ i _=>j-(intOf i).toNat);case atStart=>exact⟨0,by omega,rfl,rfl,d,b⟩
   case round=>
    obtain⟨k,hk,rfl,rfl,d,b⟩:=hrel;by_cases ah:k<j
    ·obtain⟨r,t⟩:∃r,R[k]? =some r:=⟨_,bV (by omega)⟩
     have C:=HA.o k _ t;have G:=(b.cell (p:=(U a k)) (kF w _ C)).trans C;obtain⟨x,y,P,c,l,J,K⟩:=HB.o r (nZ t);rw[l]at G;have hs:kK R (k+1)=kK R k+r.m:=yC t;have F:allM (R.take (k+1))=allM (R.take k)++r.xs:=X3 t;have f:kK R k+r.m<=c1:=by
      have:=CX R (k+1) (j-(k+1));rw[show k+1+(j-(k+1))=j by omega]at this;have:=W;omega
     have z:∀M,P=some M->∀i u,r.xs[i]? =some u->wr.cell? (M.add i)=some u:=by
      intro M T i u hu;have h1:=K M T i u hu;have Y:=kF w _ h1;exact(b.cell Y).trans h1
     obtain⟨m,I⟩:=aP r.m;obtain⟨xs,L⟩:=aP r.xs;rw[<-I]at hs G f J x;rw[<-L]at F z y x;obtain⟨S,A⟩:=aP (kK R k);rw[<-A]at hs f d;rw[<-A];have N:=hide x;clear A t C K I L l x;have ac:(k:Int)<(j:Int):=(by omega);go_wp2_with (at_builtin;refine wpList_append_fits_any _ rfl (.tmp 31) (.tmp 32) 240 rfl w.heap.size 243 i0 2 OY hi aa w.heap.size S c1 (allM (R.take k)) rfl d P m c xs rfl N.o J z y f ?_;intro w2 Z H);have B:=b.grown H b.size (fun q hq=>by cases hq;exact aS _);go_roundw;case rel=>exact⟨k+1,by omega,by go_num,by rw[hs],by rw[hs,F];exact Z,B⟩
     case measure=>simp[intOf];omega
    ·obtain rfl:k=j:=by omega
     go_wp2_with fail;go_ret;refine⟨c1,rfl,?_,Step.of_below b⟩;have:=d;rw[kW (by omega)]at this;exact this
open Go.Shelf Go.Sort
def WQ {u:aK}{t:TypeId}{m n:Nat}{xs ys:List aK}(j:Nat)(r:Pt)(h:([⟨u,m,xs⟩,⟨v,n,ys⟩]:List Pt)[j]? =some r):(w.alloc (.cells #[u,v] t)).cell? (U w.heap.size j)=some r.v:=by
 refine aC (aR _ _) j _ ?_;match j,h with
 |0,h=>cases h;rfl
 |1,h=>cases h;rfl
def vL.pt {l:List Pe}(h:vL w v l):Pt.ok w 2 ⟨v,l.length,cellsE l⟩:=by
 refine⟨tJ l,zQ l,?_⟩;rcases h with⟨rfl,rfl⟩|⟨g,cap,rfl,d,e,b⟩
 ·exact⟨none,0,rfl,fun _=>⟨rfl,rfl⟩,fun a h=>by cases h⟩
 ·refine⟨some (U g 0),cap,rfl,fun h=>(by cases h),fun a h j u c=> ?_⟩;cases h;rw[show(Addr.add (U g 0) j)=(U g j) by simp[Addr.add];omega];exact b.cells j u c
def WA (blk cap:Nat)(a:List Pe)(w:aH)(R:RowK Pe.enc 2 w blk 0 a.toArray)(b:a.length<1073741824):Calls prog 207 #[.slice (some (U blk 0)) a.length cap,Tx] w fun e w'=>e= .returned (.tuple #[])/\mX w blk 0 (dU a) w':=by
 have h:=Rz blk 0 cap a w w R (SWK.start R.hH) b;unfold Tx at h|-
 have H:=hide h;obtain⟨n,hn⟩:∃n,a.length=n:=⟨_,rfl⟩
 rw[hn]at H|-
 clear h hn R;go_enter func207,ntmps207;go_wp2_with (go_at_call 216;apply H.o.mono;rintro e w' ⟨rfl,c⟩);go_end0;exact⟨rfl,c⟩
def Nb (u v:aK)(S Q:List Pe)(w:aH)(N:vL w u S)(C:vL w v Q)(hs:1<=S.length)(Z:S.length+Q.length<=1000000):Calls prog 197 #[u,v] w fun e w'=>∃P,e= .returned P/\vL w' P (dU (S++Q))/\(∀b,P.ownBlock=some b->w.heap.size<=b)/\O w w':=by
 obtain⟨D,F,rfl⟩:∃p c,u= .slice p S.length c:=by obtain⟨_,_,p,c,h,_⟩:=N.pt;exact⟨p,c,h⟩
 obtain⟨G,H,rfl⟩:∃p c,v= .slice p Q.length c:=by obtain⟨_,_,p,c,h,_⟩:=C.pt;exact⟨p,c,h⟩
 have d:O w (w.alloc (.cells #[.slice D S.length F, .slice G Q.length H] 240)):=(aU _ _).alloc _;have R:=hide (N.step d).pt;have T:=hide (C.step d).pt;have x:=hide d;have m:kK [⟨.slice D S.length F,S.length,cellsE S⟩,⟨.slice G Q.length H,Q.length,cellsE Q⟩] 2=(S++Q).length:=by simp[kK]
 have j:allM [⟨.slice D S.length F,S.length,cellsE S⟩,⟨.slice G Q.length H,Q.length,cellsE Q⟩]=cellsE (S++Q):=by rw[xK];simp[allM]
 have L:(S++Q).length=S.length+Q.length:=by simp
 have t:=hide (aQ m j);clear N C m j d;go_enter func197,ntmps197;go_wp2_with fail;apply(an9 w.heap.size 2 2 [⟨.slice D S.length F,S.length,cellsE S⟩,⟨.slice G Q.length H,Q.length,cellsE Q⟩] (w.alloc _) rfl (by omega) (by omega) WQ ?cb ?cp ?cr).mono;case cb=>
  intro r hr;simp only[fE,wQ,or_false]at hr;rcases hr with rfl|rfl
  ·exact R.o
  ·exact T.o
 case cp=>rw[t.o.1];omega
 case cr=>rw[t.o.1];omega
 rintro e w1 ⟨W,rfl,a,B⟩;rw[t.o.1,t.o.2]at a;rw[t.o.1];have hp:=vL.D6 a;obtain⟨blk,f⟩:=aP ((w.alloc (.cells #[.slice D S.length F, .slice G Q.length H] 240)).heap.size);rw[<-f]at a hp|-
 obtain⟨M,aa⟩|⟨g,cap,C,z,hg,q⟩:=hp
 ·cases M
 ·cases C;have s:=WA blk W (S++Q) w1 (aC9 q.holds hg) (by omega);have K:w.heap.size<blk:=by rw[f];simp
  have l:=x.o.trans B;have J:=hide l;have I:=hide q;unfold Tx at s;obtain⟨n,hn⟩:∃n,(S++Q).length=n:=⟨_,rfl⟩
  rw[hn]at s z|-
  have HN:=hide hn;clear B l a q f L t R T x hn;go_wp2_with (go_at_call 207;apply s.mono;rintro e w2 ⟨rfl,X⟩);go_ret;have A:=X.step;have Y:=HN.o;refine⟨_,rfl, .inr ⟨blk,W,by rw[eT,Y];rfl,by rw[eT,Y];exact z,by have:=A.size;omega,vP.ac2 (SWK.holds X hg I.o.holds (by simp[eT]))⟩,fun b Z=>by cases Z;exact Nat.le_of_lt K,J.o.trans' A (fun i hi y=>by omega)⟩
end Go.Proofs.YtbpahojchgpdnaaGreatDoor
namespace Go.dM
variable {g k:Nat} {w w':aH} {v:aK}
def comes (L:aD)(n:Nat):aD:=(List.range n).filter fun i=>decide (0<L[i]?.getD 0)
def often (L:aD)(i:Nat):Nat:=L[i]?.getD 0
def QU (L:aD)(n:Nat):comes L (n+1)=if 0<often L n then comes L n++[n]else comes L n:=by
 unfold comes often;rw[FZ,List.filter_append];by_cases h:0<L[n]?.getD 0
 ·simp[h]
 ·simp[h]
def tO (L:aD)(n:Nat):(comes L n).Nodup:=List.nodup_range.sublist List.filter_sublist
def oQ (L:aD)(n i:Nat):i∈comes L n↔i<n/\0<often L i:=by simp[comes,often]
def qZ (L:aD)(n:Nat):(comes L n).length<=n:=by have:=List.length_filter_le (fun i=>decide (0<L[i]?.getD 0)) (List.range n);simpa[comes]using this
end Go.dM
namespace Go.Proofs.YtbpahojchgpdnaaGreatDoor
open Go.RowKit Go.Shelf Go.Lib Go.Sort Go.dM Go.Proofs.Tryz
variable {g k:Nat} {w w':aH} {v:aK}
def gG (w:aH)(g off:Nat)(L:aD):Prop:=∀i:Nat,i<L.length->w.cell? ⟨g,off+i,none⟩=some (V (often L i:Nat))
def gG.step {S:Nat->Prop}{off:Nat}{L:aD}(h:gG w g off L)(hs:Step S w w')(hn:¬S g):gG w' g off L:=fun i hi=>hs.cell (h i hi) hn
def EF.nums {p:Pe}(h:EF w p):gG w p.g 0 p.s:=fun i hi=>by
 rw[dS]
 exact h.2.2 i _ (by unfold often;rw[bV hi];rfl)
structure xX (B:Nat)(w:aH)(v:aK)(S:List Pe):Prop where
 row:w.ownsRow B 243 2 v S.length (cellsE S)
 sy:∀p∈S,EF w p
 ne:∀p∈S,∀k,v.ownBlock=some k->p.g≠k
 lo:∀p∈S,B<=p.g
def xX.nil (B:Nat)(w:aH):xX B w (.slice none 0 0) []:=⟨⟨rfl, .inl ⟨rfl,rfl⟩⟩,fun p hp=>by simp at hp,fun p hp=>by simp at hp,fun p hp=>by simp at hp⟩
def xX.more {B:Nat}{w2 w4 w5:aH}{S:List Pe}{p:Pe}{cap:Nat}(h:xX B w2 v S)(n:B<=w2.heap.size)(d:O w2 w4)(hp:EF w4 p)(m:w2.heap.size<=p.g)(c:w5.ownsRow B 243 2 (.slice (some (U g 0)) (S.length+1) cap) (S.length+1) (cellsE S++cellsE [p]))(b:w4.grownBy w5 v.ownBlock)(l:v.ownBlock=some g\/w4.heap.size<=g):xX B w5 (.slice (some (U g 0)) (S.length+1) cap) (S++[p]):=by
 have i:∀k,v.ownBlock=some k->k<w2.heap.size:=fun k hk=>(h.row.lt k hk).2;have f:Step (fun k=>v.ownBlock=some k) w4 w5:=⟨b.os,b.tape,b.output,b.size,fun k hk hn=>b.block k hk (fun e=>hn e.symm)⟩
 refine⟨by rw[aN,xK];exact c,fun q a=> ?_,fun q a k hk=> ?_,fun q a=> ?_⟩
 ·rcases iF.1 a with a|a
  ·exact((h.sy q a).step d (fun y=>y)).step f (fun y=>h.ne q a _ y rfl)
  ·cases qB.1 a;exact hp.step f (fun y=>by have:=i _ y;omega)
 ·have j:k=g:=by cases hk;rfl
  subst j;rcases iF.1 a with a|a
  ·rcases l with e|e
   ·exact h.ne q a _ e
   ·have:=(h.sy q a).2.1;have:=d.size;omega
  ·cases qB.1 a;rcases l with e|e
   ·have:=i _ e;omega
   ·have:=hp.2.1;omega
 ·rcases iF.1 a with a|a
  ·exact h.lo q a
  ·cases qB.1 a;omega
def Tq (g off cap:Nat)(L:aD)(w:aH)(h:gG w g off L)(hL:L.length<=1000)(f:∀i,often L i<=1000000000):Calls prog 196 #[.slice (some (U g off)) L.length cap] w fun e w'=>∃v S,e= .returned v/\xX w.heap.size w' v S/\S.map Pe.pa=(comes L L.length).map (mk1 (often L))/\O w w':=by
 obtain⟨i0,hi,Y,Z,N⟩:=eD YZ;obtain⟨B,R⟩:=aP w.heap.size;rw[<-R];have HB:=hide R;have HI:=hide h;clear h R;go_enter func196,ntmps196;go_wp2_with fail;go_loopw [3,8] (fun u3 u8 wr=>∃(k:Nat) (v:aK) (S:List Pe),u8=V (k:Nat)/\u3=v/\k<=L.length/\xX B wr v S/\S.map Pe.pa=(comes L k).map (mk1 (often L))/\B<=wr.heap.size/\O w wr) (fun _ u8 _=>L.length-(intOf u8).toNat);case atStart=>exact⟨0,_,[],rfl,rfl,by omega,xX.nil _ _,rfl,by have:=HB.o;omega,aU _ _⟩
 case round=>
  obtain⟨k,v,S,rfl,rfl,hk,m,d,C,r⟩:=hrel;have b:=hide m;have t:=hide d;have p:=hide r;by_cases W:k<L.length
  ·have J:(k:Int)<(L.length:Int):=(by omega);have hc:=r.cell (HI.o k W) (fun y=>y);have ab:S.length<=k:=by
    have h1:=lZ List.length d;simp only[nG]at h1;have:=qZ L k;omega
   have T:=f k;have a:=QU L k;obtain⟨c,A⟩:=aP (often L k);rw[<-A]at hc T a;have HC:=hide A;clear m d r A;by_cases D:0<c
   ·have G:(0:Int)<(c:Int):=(by omega);have F:(c:Int)>0:=(by omega);rw[aA D]at a;have z:=hide a;clear a f;go_wp2_with (at_builtin;refine fQ _ rfl _ _ 240 rfl B 243 i0 _ 2 32 OY hi Y Z N rfl (by decide) _ S.length (cellsE S) rfl (by exact(b.o.row.alloc _).alloc _) ⟨wr.heap.size+1,0,none⟩ 1 1 (cellsE [⟨c,[k],wr.heap.size,1⟩]) rfl rfl ?c1 (zQ _) (by decide) ?c3 ?c4 ?c5 ?_);case c1=>
     intro i u hu;have h9:=aR (wr.alloc (.cells #[V (k:Nat)] 3)) (.cells #[V (c:Nat), .slice (some (U wr.heap.size 0)) 1 1] 243);rw[oJ]at h9;have h8:=aC h9 i u (by rw[<-hu];simp[cellsE,Pe.v]);rw[show(Addr.add ⟨wr.heap.size+1,0,none⟩ i)=⟨wr.heap.size+1,i,none⟩ by simp[Addr.add];omega];exact h8
    case c3=>unfold maxLen;omega
    case c4=>omega
    case c5=>simp;omega
    intro g' aa w5 s l hg;obtain⟨w4,n⟩:=aP ((wr.alloc (.cells #[V (k:Nat)] 3)).alloc (.cells #[V (c:Nat), .slice (some (U wr.heap.size 0)) 1 1] 243));rw[<-n]at l;have H:u3.ownBlock=some g'\/w4.heap.size<=g':=(by rw[n];simpa using hg);have q:O wr w4:=(by rw[n];exact((aU _ _).alloc _).alloc _);have M:EF w4 ⟨c,[k],wr.heap.size,1⟩:=by
     have hb:w4.heap[wr.heap.size]? =some (.cells #[V (k:Nat)] 3 (0,0)):=by
      rw[n];exact(dG _ _ _ (by simp)).trans (aR _ _)
     refine⟨by simp,aO hb,fun j x X=> ?_⟩;match j,X with
     |0,X=>cases X;exact aC hb 0 _ rfl
    have n1:=b.o.more C q M (aS _) s l H;have K:O w w5:=(p.o.trans q).grown l (fun k e=>by
     have h1:=(b.o.row.lt k e).1;have h2:=HB.o;exact .inr (by omega))
    have ac:=q.size;have ad:=l.size;have N1:=hide n1;have Q:=hide K;clear s l hg H n q M n1 K b p;go_wp2_with fail;go_roundw;case rel=>
     refine⟨k+1,_,S++[⟨c,[k],wr.heap.size,1⟩],by go_num,rfl,by omega,?_,?_,by omega,Q.o⟩
     ·have:=N1.o;exact this
     ·rw[z.o,sS,sS,t.o,HC.o];rfl
    case measure=>simp[intOf];omega
   ·have G:¬(0:Int)<(c:Int):=(by omega);have F:¬(c:Int)>0:=(by omega);rw[aB D]at a;have z:=hide a;clear a f;go_wp2_with fail;go_roundw;case rel=>exact⟨k+1,_,S,by go_num,rfl,by omega,b.o,by rw[z.o];exact t.o,C,p.o⟩
    case measure=>simp[intOf];omega
  ·have J:¬(k:Int)<(L.length:Int):=(by omega);have I:k=L.length:=(by omega);rw[I]at d;have P:=hide d;clear m d r I t;go_wp2_with fail;go_ret;exact⟨_,rfl,S,b.o,P.o,p.o⟩
end Go.Proofs.YtbpahojchgpdnaaGreatDoor
namespace Go.dM
open Go Go.RowKit
variable {g k:Nat} {w w':aH} {v:aK}
def AB {P:Program}{D:Array Oper}{o:Oper}{a:Act}{K:Act->aH->Prop}{Q:Exit->Act->aH->Prop}{H:Prop}(hg:o.guard=none)(s x:Operand)(t:TypeId)(W:o.op=Op.call { callee:=Callee.builtin Builtin.append,args:=#[s,x],argTypes:=#[t,t] })(base:Nat)(e:TypeId)(i:TypeInfo)(z:aK)(size bytes:Nat)(J:P.underlying t=some (.slice e))(L:P.info? e=some i)(Y:i.zero=some z)(M:i.size=size)(Z:i.bytes=bytes)(h6:z.cells.size=size)(h7:0<size)(v:aK)(n:Nat)(xs:List aK)(hs:a.eval s=v)(q:w.ownsRow base e size v n xs)(B:Addr)(m c:Nat)(news:List aK)(hx:a.eval x= .slice (some B) m c)(hn:news.length=m*size)(N:∀j u,news[j]? =some u->w.cell? (B.add j)=some u)(C:∀u∈news,u.oneCell'=true)(hm:0<m)(b1:n+m<=maxLen)(b2:(n+m)*bytes<=140737488355328)(r:base<=w.heap.size)(hK:∀g cap w',w'.ownsRow base e size (.slice (some (U g 0)) (n+m) cap) (n+m) (xs++news)->w.grownBy w' v.ownBlock->(v.ownBlock=some g\/w.heap.size<=g)->K (a.put o.dst (.slice (some (U g 0)) (n+m) cap)) w'):if Region.wanted o (yielded D a.tmps)=true then Oper.wp P o a w K Q else H:=by
 have hw:Region.wanted o (yielded D a.tmps)=true:=by simp[Region.wanted,hg]
 rw[aA hw];have p:∀l w',(Builtin.append_ #[t,t] o.type #[v, .slice (some B) m c]).run P w= .ok l w'->K (a.put o.dst l) w'->Oper.wp P o a w K Q:=by
  intro l w' b h;unfold Oper.wp;simp[execOp,W,resolve,invoke,builtin,hs,hx,b,Result.andThen];exact h
 have fin:∀l w',w'.ownsRow w.heap.size e size l (n+m) (xs++news)->w.grownBy w' none->K (a.put o.dst l) w':=by
  intro l w' T R;obtain⟨g,d,A⟩:∃g d,l= .slice (some (U g 0)) (n+m) d:=by
   obtain⟨_,⟨_,hz⟩|⟨g,d,I,A,_⟩⟩:=T
   ·omega
   ·exact⟨g,d,A⟩
  subst A;exact hK g d w' (bH T r) (M9 R) (.inr (T.lt g rfl).1)
 have f:=q;obtain⟨hl,⟨G,S⟩|⟨g,cap,I,G,ac,hh,ae,aa,ab,af⟩⟩:=q
 ·subst S;have X:xs=[]:=kP (by omega);subst X G;obtain⟨l,w',b,r1,F,_⟩:=run_append_own (P:=P) w w.heap.size t o.type e i z size bytes J L Y M Z h6 h7 (.slice none 0 0) 0 [] (jJ w _ e size) B m c news hn N C b1 b2 (aS _);exact p l w' b (fin l w' r1 F)
 ·by_cases y:n+m<=cap
  ·subst G;obtain⟨w',b,r1,F⟩:=run_append_fits (P:=P) w base t o.type e i size J L M g n cap xs f B m c news hn N C y;exact p _ _ b (hK g cap w' r1 F (.inl rfl))
  ·subst G;obtain⟨l,w',b,r1,F⟩:=run_append_arg_grows (P:=P) w t o.type e i z size bytes J L Y M Z h6 h7 (U g 0) n cap xs f.1 (fun j u hu=>f.cells rfl j u hu) B m c news hn N (by omega) b1 b2;exact p _ _ b (fin l w' r1 F)
end Go.dM
