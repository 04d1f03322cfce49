import Derived.Test.YtbpahojchgpdnaaGreatDoorMerges
import Derived.Test.YtbpahojchgpdnaaGreatDoorGCoding
set_option maxRecDepth 20000
set_option maxHeartbeats 4000000
set_option linter.all false
namespace Go.dM
variable {g k:Nat} {w w':aH} {v:aK}
inductive lH (k:Nat):List Pe->List Pe->Prop
 |last (A:List Pe) (h:A.length<=k):lH k A (dU A)
 |cons (A X Y:List Pe) (h:A.length=k) (t:lH k X Y):lH k (A++X) (dU A++Y)
inductive uN (k:Nat):List Pe->List Pe->Prop
 |nil:uN k [] []
 |cons (A X Y:List Pe) (h:A.length=k) (t:uN k X Y):uN k (A++X) (dU A++Y)
def uN.snoc {C D A:List Pe}(h:uN k C D)(b:A.length=k):uN k (C++A) (D++dU A):=by
 induction h with
 |nil=>have:=uN.cons A [] [] b .nil;simpa using this
 |cons B X Y a t ih=>have:=uN.cons B _ _ a ih;simpa using this
def uN.end {C D A:List Pe}(h:uN k C D)(b:A.length<=k):lH k (C++A) (D++dU A):=by
 induction h with
 |nil=>exact .last A b
 |cons B X Y a t ih=>have:=lH.cons B _ _ a ih;simpa using this
def uN.length {C D:List Pe}(h:uN k C D):D.length=C.length:=by
 induction h with
 |nil=>rfl
 |cons B X Y a t ih=>simp[eT,ih]
def lH.length {C D:List Pe}(h:lH k C D):D.length=C.length:=by
 induction h with
 |last A h=>exact eT A
 |cons B X Y a t ih=>simp[eT,ih]
def lH.all {X Y:List Pe}(h:lH k X Y)(c:X.length<=k):Y=dU X:=by
 cases h with
 |last A h=>rfl
 |cons A X Y d t=>
  have a:X=[]:=kP (by simp at c;omega);subst a;have b:Y=[]:=kP (by rw[t.length];rfl);rw[b];simp
def lH.split {X Y:List Pe}(h:lH k X Y)(d:k<=X.length):∃A a b,X=A++a/\A.length=k/\Y=dU A++b/\lH k a b:=by
 cases h with
 |last A h=>exact⟨X,[],[],by simp,by omega,by simp,lH.last [] (by simp)⟩
 |cons A X Y c t=>exact⟨A,X,Y,rfl,c,rfl,t⟩
end Go.dM
namespace Go.Proofs.YtbpahojchgpdnaaGreatDoor
open Go.RowKit Go.Shelf Go.Lib Go.Sort Go.dM Go.Proofs.Tryz
variable {g k:Nat} {w w':aH} {v:aK}
set_option maxRecDepth 100000 in
def ay3 (blk off cap a b:Nat)(P X S d:List Pe)(w0 w:aH)(R:RowK Pe.enc 2 w0 blk off d.toArray)(hs:d.length=(P++X++S).length)(H:mX w0 blk off (P++X++S) w)(j:a=P.length)(i:b=P.length+X.length)(f:d.length<4611686018427387904):Calls prog 221 #[.slice (some (U blk off)) d.length cap,V a,V b,Tx] w fun e w'=>e= .returned (.tuple #[])/\mX w0 blk off (P++dU X++S) w':=by
 have c:(P++X++S).toArray.size=d.length:=by rw[hs];simp
 have h:=AnyQ.insertionSortCmpFunc insLaid 2 (fun _=>rfl) (fun _=>rfl) Pe.enc Cm Aw cfE 208 #[] blk off cap a b (P++X++S).toArray w
  (fun _ _=>rfl) (aD6 _ _ _ _) (SWK.holds H R.hblk R.hH (by rw[c];simp)) (SWK.lt H R.hblk) (by omega) (by rw[c,hs];simp;omega) (by rw[c];exact f)
 rw[c]at h;apply h.mono;rintro e w' ⟨rfl,n,os,rfl⟩;refine⟨rfl,?_⟩;rw[ltE,j,i,YX];exact SWK.on H R.hblk _ _ _ (by simp[eT])
set_option maxHeartbeats 8000000 in
set_option maxRecDepth 1000000 in
def Rz (blk off cap:Nat)(c:List Pe)(w0 w:aH)(R:RowK Pe.enc 2 w0 blk off c.toArray)(H:mX w0 blk off c w)(ag:c.length<1073741824):Calls prog 216 #[.slice (some (U blk off)) c.length cap,V c.length,Tx] w fun e w'=>e= .returned (.tuple #[])/\mX w0 blk off (dU c) w':=by
 have H0:=hide H;have HR:=hide R
 have ci:∀(a b:Nat) (P X S:List Pe) (W:aH),(P++X++S).length=c.length->mX w0 blk off (P++X++S) W->a=P.length->b=P.length+X.length->
   Calls prog 221 #[.slice (some (U blk off)) c.length cap,V (a:Nat),V (b:Nat), .func (.func 208) #[] #[]] W fun e w'=>e= .returned (.tuple #[])/\mX w0 blk off (P++dU X++S) w':=
  fun a b P X S W Q q h3 h4=>ay3 blk off cap a b P X S c w0 W R Q.symm q h3 h4 (by omega)
 have cm:∀(a m b:Nat) (P A B S:List Pe) (W:aH),(P++dU A++dU B++S).length=c.length->mX w0 blk off (P++dU A++dU B++S) W->a=P.length->m=P.length+A.length->b=P.length+A.length+B.length->0<A.length->0<B.length->
   Calls prog 222 #[.slice (some (U blk off)) c.length cap,V (a:Nat),V (m:Nat),V (b:Nat), .func (.func 208) #[] #[]] W fun e w'=>e= .returned (.tuple #[])/\mX w0 blk off (P++dU (A++B)++S) w':=
  fun a m b P A B S W Q q h3 h4 h5 h6 h7=>by
   rw[yI];exact IJ _ blk off cap a m b P (dU A) (dU B) S c w0 W R Q.symm q h3 (by rw[eT];exact h4) (by rw[eT,eT];exact h5) (by rw[eT];exact h6) (by rw[eT];exact h7) (uR A) (uR B) (aS _) (by omega)
 have CI:=hide ci;have CM:=hide cm;obtain⟨n,hn⟩:∃n,c.length=n:=⟨_,rfl⟩
 rw[hn]at CI CM ag|-
 have HN:=hide hn;clear H R ci cm hn;unfold Tx;go_enter func216,ntmps216;go_wp2_with fail;go_loopg [7,8] n (fun kx s7 s8 wr=>∃(a:Nat) (C X D:List Pe),s7=V (a:Nat)/\s8=V ((a+20:Nat):Int)/\a<=n/\kx=n-a/\Hid (c=C++X/\a=C.length/\uN 20 C D)/\Hid (mX w0 blk off (D++X) wr));case atStart=>exact⟨0,[],c,[],rfl,rfl,by omega,rfl,⟨rfl,rfl, .nil⟩,H0⟩
 case round=>
  clear H0;obtain⟨a,C,X,D,rfl,rfl,af,ap,t,p⟩:=hrel;by_cases ad:a+20<=n
  ·obtain⟨l,u,j⟩:=t.o;obtain⟨b,J⟩:=aP (a+20);rw[<-J];have r:(b:Int)<=(n:Int):=(by omega);have i:X.length=n-a:=(by have:=HN.o;rw[l]at this;simp at this;omega);have lt:(X.take 20).length=20:=(by rw[dF];omega);have k:=CI.o a b D (X.take 20) (X.drop 20) wr (by rw[dB,pJ];simp[j.length];omega) (by rw[dB,pJ];exact p.o) (by rw[j.length];exact u) (by rw[j.length,lt];omega);have n1:Hid (c=(C++X.take 20)++X.drop 20/\b=(C++X.take 20).length/\uN 20 (C++X.take 20) (D++dU (X.take 20))):=⟨by rw[dB,pJ];exact l,by rw[aN,lt];omega,j.snoc lt⟩
   have K:=hide k;have HB:=hide J;clear l u j i lt k J t p;go_wp2_with (go_at_call 221;apply K.o.mono;rintro e w' ⟨rfl,q⟩);go_roundg (n-b);case measure=>have:=HB.o;omega
   case rel=>exact⟨b,C++X.take 20,X.drop 20,D++dU (X.take 20),rfl,by first|rfl|go_num,by omega,rfl,n1,q⟩
  ·have r:¬((a+20:Nat):Int)<=(n:Int):=(by omega);obtain⟨l,u,j⟩:=t.o;have i:X.length=n-a:=(by have:=HN.o;rw[l]at this;simp at this;omega);have k:=CI.o a n D X [] wr (by simp[j.length];omega) (by simpa using p.o) (by rw[j.length];exact u) (by rw[j.length];omega);have n1:Hid (lH 20 c (D++dU X)):=(by rw[l];exact j.end (by omega));have K:=hide k;clear l u j i k t p CI;go_wp2_with (go_at_call 221;apply K.o.mono;rintro e w' ⟨rfl,q⟩);obtain⟨w1,y⟩:=aP w';have H1:Hid (mX w0 blk off (D++dU X) w1):=(by show mX _ _ _ _ _;rw[y];simpa using q);rw[<-y];clear y q K;go_loopg [6,7,8,9] (n-20) (fun kx s6 s7 s8 s9 wq=>∃(f:Nat) (Y:List Pe) (v7 v8 v9:aK),s6=V f/\s7=v7/\s8=v8/\s9=v9/\20<=f/\f<=2147483648/\kx=n-f/\Hid (lH f c Y)/\Hid (mX w0 blk off Y wq));case atStart=>exact⟨20,_,_,_,_,rfl,rfl,rfl,rfl,by omega,by omega,by omega,n1,H1⟩
   case round=>
    clear H1 n1;obtain⟨f,Y,v7,v8,v9,rfl,rfl,rfl,rfl,au,ar,aj,HC,p⟩:=hrel;by_cases ao:f<n
    ·have M:(f:Int)<(n:Int):=(by omega);have G:(f:Int)<=2147483648:=(by omega);obtain⟨w2,L⟩:=aP wr;rw[<-L]at p|-
     clear L;go_wp2_with fail;obtain⟨d,hd⟩:∃d:Nat,(d:Int)=2*(f:Int):=⟨2*f,by omega⟩
     rw[<-hd];have N:d=2*f:=(by omega);have ae:=hide N;have aq:(2:Int)*(f:Int)=(d:Int):=(by omega);have am:d<=2*1073741824:=(by omega);clear hd N;go_loopg [7,8] n (fun kx s7 s8 wq=>∃(a:Nat) (C X D Z:List Pe),s7=V (a:Nat)/\s8=V ((a:Int)+(d:Int))/\a<=n/\kx=n-a/\Hid (c=C++X/\a=C.length/\uN d C D/\lH f X Z)/\Hid (mX w0 blk off (D++Z) wq));case atStart=>exact⟨0,[],c,[],Y,rfl,by simp,by omega,rfl,⟨rfl,rfl, .nil,HC.o⟩,p⟩
     case round=>
      obtain⟨a,C,X,D,Z,rfl,rfl,af,ak,t,p⟩:=hrel;obtain⟨l,u,j,I⟩:=t.o;have i:X.length=n-a:=(by have:=HN.o;rw[l]at this;simp at this;omega);have z:=ae.o;by_cases ad:a+d<=n
      ·obtain⟨b,J⟩:=aP (a+d);obtain⟨m,hm⟩:=aP (a+f);have G:(a:Int)+(d:Int)=(b:Int):=(by omega);have ac:(a:Int)+(f:Int)=(m:Int):=(by omega);rw[G];have r:(b:Int)<=(n:Int):=(by omega);obtain⟨A,X1,Z1,rfl,hA,rfl,t1⟩:=I.split (by omega);rw[aN]at i;obtain⟨B,X2,Z2,rfl,hB,rfl,t2⟩:=t1.split (by omega);rw[aN]at i;have ai:=t2.length;have x:=j.length;have k:=CM.o a m b D A B Z2 wr (by simp only[aN,eT];omega) (by simpa using p.o) (by omega) (by omega) (by omega) (by omega) (by omega)
       have n1:Hid (c=(C++(A++B))++X2/\b=(C++(A++B)).length/\uN d (C++(A++B)) (D++dU (A++B))/\lH f X2 Z2):=
        ⟨by rw[l];simp,by simp only[aN];omega,j.snoc (by simp only[aN];omega),t2⟩
       have K:=hide k;have ab:b<=n:=(by omega);have HB:=hide J;have an:a<b:=(by omega);clear l u j I t1 t2 i k J G t p hA hB ai x z hm;go_wp2_with (go_at_call 222;apply K.o.mono;rintro e w' ⟨rfl,q⟩);go_roundg (n-b);case measure=>omega
       case rel=>exact⟨b,C++(A++B),X2,D++dU (A++B),Z2,rfl,by first|rfl|go_num,ab,rfl,n1,q⟩
      ·have r:¬(a:Int)+(d:Int)<=(n:Int):=(by omega);have x:=j.length;obtain⟨m,hm⟩:=aP (a+f);have ac:(a:Int)+(f:Int)=(m:Int):=(by omega);have av:(f:Int)*2=(d:Int):=(by omega);by_cases al:m<n
       ·have T:(m:Int)<(n:Int):=(by omega);obtain⟨A,X1,Z1,rfl,hA,rfl,t1⟩:=I.split (by omega);rw[aN]at i;have F:=t1.all (by omega);subst F;have k:=CM.o a m n D A X1 [] wr (by simp only[aN,eT,pE];omega) (by simpa using p.o) (by omega) (by omega) (by omega) (by omega) (by omega);have n1:Hid (lH d c (D++dU (A++X1))):=(by show lH d c _;rw[l];exact j.end (by simp only[aN];omega));have K:=hide k;have ah:n-d<n-f:=(by omega);have s:20<=d/\d<=2147483648:=(by omega);clear l u j I t1 i k t p hA x z hm;go_wp2_with (go_at_call 222;apply K.o.mono;rintro e w' ⟨rfl,q⟩);go_roundg (n-d);case measure=>omega
        case rel=>exact⟨d,D++dU (A++X1),_,_,_,by first|rfl|go_num,rfl,rfl,rfl,s.1,s.2,rfl,n1,by have:=q;simp only[bG]at this;exact this⟩
       ·have T:¬(m:Int)<(n:Int):=(by omega);have F:=I.all (by omega);subst F;have n1:Hid (lH d c (D++dU X)):=(by show lH d c _;rw[l];exact j.end (by omega));have ah:n-d<n-f:=(by omega);have s:20<=d/\d<=2147483648:=(by omega);clear l u j I i t x z hm;go_wp2_with fail;go_roundg (n-d);case measure=>omega
        case rel=>exact⟨d,D++dU X,_,_,_,by first|rfl|go_num,rfl,rfl,rfl,s.1,s.2,rfl,n1,p⟩
    ·have M:¬(f:Int)<(n:Int):=(by omega);have aa:Hid (mX w0 blk off (dU c) wr):=by
      have Q:=HC.o.all (by have:=HN.o;omega);rw[<-Q];exact p.o
     clear HC p;go_wp2_with fail;go_end0;exact⟨rfl,aa.o⟩
def cellsE:List Pe->List aK
 |[]=>[]
 |p::l=>V (p.c:Nat)::p.v::cellsE l
def tJ:∀l:List Pe,(cellsE l).length=l.length*2
 |[]=>rfl
 |p::l=>by simp[cellsE,tJ l];omega
def xK:∀l r:List Pe,cellsE (l++r)=cellsE l++cellsE r
 |[],r=>rfl
 |p::l,r=>by simp[cellsE,xK l r]
def zQ:∀(l:List Pe) (u:aK),u∈cellsE l->u.oneCell'=true
 |[],u,h=>by simp[cellsE]at h
 |p::l,u,h=>by
  simp only[cellsE,fE]at h
  rcases h with rfl|rfl|h
  ·rfl
  ·rfl
  ·exact zQ l u h
def F6:∀(l:List Pe) (i:Nat),i<l.length->(cellsE l)[i*2]? =some (V ((iI l i).c:Nat))/\(cellsE l)[i*2+1]? =some (iI l i).v
 |[],i,h=>by simp at h
 |p::l,0,h=>⟨rfl,rfl⟩
 |p::l,i+1,h=>by
  have a:=F6 l i (by simpa using h)
  rw[show(i+1)*2=i*2+1+1 by omega]
  exact a
def vP (w:aH)(g:Nat)(l:List Pe):Prop:=∀i,i<l.length->w.cell? ⟨g,i*2,none⟩=some (V ((iI l i).c:Nat))/\w.cell? ⟨g,i*2+1,none⟩=some (iI l i).v/\w.frozen? ⟨g,i*2,none⟩=false/\w.frozen? ⟨g,i*2+1,none⟩=false
def vP.holds {l:List Pe}(h:vP w g l):HoldsK Pe.enc 2 w g 0 l.toArray:=by
 intro j a;rw[size_flatK]at a;rw[get_flatK _ _ _ _ a,kI,dS];have f:j/2<l.length:=by simp at a;omega
 obtain⟨b,c,d,f1⟩:=h (j/2) f;rcases JO j with e|e
 ·rw[show j/2*2=j by omega]at b d;rw[e];exact⟨b,d⟩
 ·rw[show j/2*2+1=j by omega]at c f1;rw[e];exact⟨c,f1⟩
def vP.ac2 {l:List Pe}(h:HoldsK Pe.enc 2 w g 0 l.toArray):vP w g l:=by
 intro i hi;have a:i<l.toArray.size:=by simpa using hi
 have b:=h.cell a (show 0<2 by omega);have c:=h.cell a (show 1<2 by omega);rw[kI,dS]at b c;exact⟨b.1,c.1,b.2,c.2⟩
def vP.cells {l:List Pe}(h:vP w g l)(j:Nat)(u:aK)(a:(cellsE l)[j]? =some u):w.cell? (U g j)=some u:=by
 have i:=BD.1 a |>.1
 rw[tJ]at i;obtain⟨b,c,_,_⟩:=h (j/2) (by omega);obtain⟨f,d⟩:=F6 l (j/2) (by omega);rcases JO j with e|e
 ·rw[show j/2*2=j by omega]at b f;rw[f]at a;rw[b,<-a]
 ·rw[show j/2*2+1=j by omega]at c d;rw[d]at a;rw[c,<-a]
def vP.of_cells {l:List Pe}(h:∀j u,(cellsE l)[j]? =some u->w.cell? (U g j)=some u)(f:∀j,j<l.length*2->w.frozen? (U g j)=false):vP w g l:=by intro i hi;obtain⟨b,a⟩:=F6 l i hi;exact⟨h _ _ b,h _ _ a,f _ (by omega),f _ (by omega)⟩
def vP.step {l:List Pe}{S:Nat->Prop}(h:vP w g l)(hs:Step S w w')(f:¬S g)(c:g<w.heap.size):vP w' g l:=by intro i hi;obtain⟨a,b,d,f1⟩:=h i hi;have e:=hs.block g c f;exact⟨(vF (w:=w) e).trans a,(vF (w:=w) e).trans b,(World.frozen?_of_block (w:=w) e).trans d,(World.frozen?_of_block (w:=w) e).trans f1⟩
def vL (w:aH)(v:aK)(l:List Pe):Prop:=(v= .slice none 0 0/\l=[])\/∃g cap,v= .slice (some (U g 0)) l.length cap/\l.length<=cap/\g<w.heap.size/\vP w g l
def vL.step {l:List Pe}(h:vL w v l)(hs:O w w'):vL w' v l:=by
 rcases h with h|⟨g,cap,b,d,a,c⟩
 ·exact .inl h
 ·exact .inr ⟨g,cap,b,d,by have:=hs.size;omega,c.step hs (fun y=>y) a⟩
def vL.D6 {base:Nat}{l:List Pe}(h:w.ownsRow base 243 2 v l.length (cellsE l)):vL w v l:=by
 have n:=h;obtain⟨p,⟨a,hn⟩|⟨g,cap,e,a,o,hh,b,m,i,f⟩⟩:=h
 ·exact .inl ⟨a,kP hn⟩
 ·refine .inr ⟨g,cap,a,b,aO hh,vP.of_cells (fun j u c=> ?_) (fun j d=> ?_)⟩
  ·refine aC hh j u ?_;have d:=BD.1 c |>.1
   rw[tJ]at d;rw[<-f,jQ d]at c;rw[<-c];simp
  ·exact aJ hh j
def EF (w:aH)(p:Pe):Prop:=p.s.length<=p.cap/\p.g<w.heap.size/\∀j x,p.s[j]? =some x->w.cell? (U p.g j)=some (V (x:Nat))
def EF.step {p:Pe}{S:Nat->Prop}(h:EF w p)(hs:Step S w w')(b:¬S p.g):EF w' p:=⟨h.1,by have:=hs.size;have:=h.2.1;omega,fun j x a=>(vF (w:=w) (hs.block p.g h.2.1 b)).trans (h.2.2 j x a)⟩
def mX.step {w0 W:aH}{blk off:Nat}{l:List Pe}(h:mX w0 blk off l W):Step (fun k=>k=blk) w0 W:=by
 obtain⟨n,os,rfl⟩:=h;refine⟨rfl,rfl,rfl,?_,fun k hk hn=> ?_⟩
 ·simp[sortWorldK,grow,putRowK,putRow,mapBlock]
 ·simp only[sortWorldK,grow,putRowK,putRow,mapBlock];rw[Array.getElem?_append_left (by simpa using hk),Array.getElem?_modify,aB (fun e=>hn e.symm)];rfl
end Go.Proofs.YtbpahojchgpdnaaGreatDoor
namespace Go.dM
variable {g k:Nat} {w w':aH} {v:aK}
structure Pt where
 v:aK
 m:Nat
 xs:List aK
def Pt.ok (w:aH)(size:Nat)(p:Pt):Prop:=p.xs.length=p.m*size/\(∀u∈p.xs,u.oneCell'=true)/\∃ao c,p.v= .slice ao p.m c/\(ao=none->p.m=0/\c=0)/\∀ad,ao=some ad->∀j u,p.xs[j]? =some u->w.cell? (ad.add j)=some u
def kK (R:List Pt)(j:Nat):Nat:=((R.take j).map (·.m)).sum
def allM (R:List Pt):List aK:=R.flatMap (·.xs)
def yC {R:List Pt}{j:Nat}{r:Pt}(h:R[j]? =some r):kK R (j+1)=kK R j+r.m:=by unfold kK;rw[jE,h];simp
def X3 {R:List Pt}{j:Nat}{r:Pt}(h:R[j]? =some r):allM (R.take (j+1))=allM (R.take j)++r.xs:=by unfold allM;rw[jE,h];simp
def CX (R:List Pt)(j d:Nat):kK R j<=kK R (j+d):=by
 induction d with
 |zero=>exact aS _
 |succ d ih=>
  refine bB ih ?_;cases h:R[j+d]? with
  |none=>
   have:kK R (j+d+1)=kK R (j+d):=(by unfold kK;rw[jE,h];simp);rw[<-iV,this];exact aS _
  |some r=>rw[<-iV,yC h];omega
end Go.dM
namespace Go.Proofs.YtbpahojchgpdnaaGreatDoor
open Go.RowKit Go.Lib Go.dM Go.Proofs.Tryz
variable {g k:Nat} {w w':aH} {v:aK}
def YZ:(prog.info? 243).map (fun i=>(i.zero,i.size,i.bytes))=some (some (.agg #[V 0, .slice none 0 0]),2,32):=by kernel_rfl
def OY:prog.underlying 240=some (.slice 243):=by kernel_rfl
def Step.of_below (h:Below w.heap.size w w'):O w w':=⟨h.os,h.tape,h.output,h.size,fun k hk _=>h.block k hk⟩
def az5 (n:Nat)(w:aH)(m:1<=n)(hn:n<=1000000):Calls prog 158 #[.slice none 0 0,V n] w fun e w'=>∃cap,e= .returned (.slice (some (U w.heap.size 0)) 0 cap)/\n<=cap/\cap<=maxLen/\(∃d:Array aK,d.size=cap*1/\w'=w.drew.alloc (.cells d 3 (0,0))):=by
 obtain⟨q,hi,p,y,j⟩:=eD info3;have hold:(Builtin.firstCells q.size 0 (.slice none 0 0)).run prog w.drew= .ok ([]:List aK).toArray w.drew:=OH w.drew q.size 0 0 0;have a:∀u,_:=fun u=>Lib.run_append_grow_zeros (P:=prog) w 57 3 u 3 q (V 0) .i64 .i64 underlying57 underlying3 hi p none 0 0 [] hold n m (by omega) (by omega) (by omega) (by rw[j];omega) (by rw[j];simp[Builtin.nextslicecap];split<;>omega);simp only[dS]at a;have c:=grownCap_ge w n 0 3;have b:=I5 w n 0 3 (by unfold maxLen;omega);obtain⟨G,s⟩:=aP (grownCap w n 0 3);rw[<-s]at a c b;clear s;obtain⟨d,f⟩:∃d:Array aK,d=([]:List aK).toArray++Builtin.zeroCells (V 0).cells n++Builtin.zeroCells (V 0).cells (G-n):=⟨_,rfl⟩
 rw[<-f]at a;have i:d.size=G*1:=by
  rw[f,zJ,zJ,jI,jI,show(V 0).cells.size=1 from rfl];simp;omega
 have z:=hide i;have l:=hide c;have r:=hide b;have t:(G:Int)<=9223372036854775807:=by unfold maxLen at b;omega
 have x:(0:Int)<(n:Int):=by omega
 clear f i c b hold;go_enter func158,ntmps158;go_wp2_with (at_builtin;refine Lib.wpList_append_run _ rfl _ _ _ _ rfl _ _ rfl rfl _ _ (a _) ?_);go_ret;exact⟨G,rfl,l.o,r.o,d,z.o,rfl⟩
def aj5 (a n cap:Nat)(R:List Pt)(w:aH)(ae:R.length=n)(ag:n<=cap)(ah:n<=1000)(ha:∀j r,R[j]? =some r->w.cell? (U a j)=some r.v)(hb:∀r∈R,r.ok w 1)(hp:1<=kK R n)(hR:kK R n<=1000000):Calls prog 132 #[.slice (some (U a 0)) n cap] w fun e w'=>∃c',e= .returned (.slice (some (U w.heap.size 0)) (kK R n) c')/\w'.ownsRow w.heap.size 3 1 (.slice (some (U w.heap.size 0)) (kK R n) c') (kK R n) (allM R)/\O w w':=by
 obtain⟨i0,hi,al,W,an⟩:=eD info3;have HA:=hide ha;have HB:=hide hb;clear ha hb;go_enter func132,ntmps132;go_wp2_with fail;go_loopw [3,11] (fun sz i wr=>∃j:Nat,j<=n/\i=V (j:Nat)/\sz=V (kK R j:Nat)/\w=wr) (fun _ i _=>n-(intOf i).toNat);case atStart=>exact⟨0,by omega,rfl,rfl,rfl⟩
 case round=>
  obtain⟨j,hj,rfl,rfl,rfl⟩:=hrel;by_cases af:j<n
  ·obtain⟨r,t⟩:∃r,R[j]? =some r:=⟨_,bV (by omega)⟩
   have G:=HA.o j _ t;obtain⟨Q,c,l,_⟩:=(HB.o r (nZ t)).2.2;rw[l]at G;have hs:kK R (j+1)=kK R j+r.m:=yC t;have D:=CX R (j+1) (n-(j+1));rw[show j+1+(n-(j+1))=n by omega]at D;obtain⟨m,H⟩:=aP r.m;rw[<-H]at hs G;obtain⟨S,B⟩:=aP (kK R j);rw[<-B]at hs;rw[hs]at D;rw[<-B];have HS:=hide hs;have am:(S:Int)+(m:Int)<=1000000:=(by omega);clear hs B t H l hR hp D;have ac:(j:Int)<(n:Int):=(by omega);go_wp2_with fail;go_roundw;case rel=>exact⟨j+1,by omega,by go_num,by rw[HS.o];go_num,bT⟩
   case measure=>simp[intOf];omega
  ·obtain rfl:j=n:=by omega
   go_wp2_with (go_at_call 158;apply(az5 (kK R j) _ hp hR).mono;rintro e w1 ⟨c1,rfl,Y,aa,X,ak,aj⟩)
   have d:(w.alloc (.cells X 3 (0,0))).drew.ownsRow w.heap.size 3 1 (.slice (some (U w.heap.size 0)) 0 c1) 0 []:=
    ⟨by simp, .inr ⟨w.heap.size,c1,X,rfl,aS _,aR _ _,by omega,aa,by omega,by simp⟩⟩
   have b:Below w.heap.size w (w.alloc (.cells X 3 (0,0))).drew:=((qK w.heap.size w).alloc (aS _) _).drew;go_loopw [6,27] (fun s i wr=>∃k:Nat,k<=j/\i=V k/\s= .slice (some (U w.heap.size 0)) (kK R k) c1/\wr.ownsRow w.heap.size 3 1 (.slice (some (U w.heap.size 0)) (kK R k) c1) (kK R k) (allM (R.take k))/\Below w.heap.size w wr) (fun _ i _=>j-(intOf i).toNat);case atStart=>exact⟨0,by omega,rfl,rfl,d,b⟩
   case round=>
    obtain⟨k,hk,rfl,rfl,d,b⟩:=hrel;by_cases ai:k<j
    ·obtain⟨r,t⟩:∃r,R[k]? =some r:=⟨_,bV (by omega)⟩
     have C:=HA.o k _ t;have G:=(b.cell (p:=(U a k)) (kF w _ C)).trans C;obtain⟨x,y,Q,c,l,L,I⟩:=HB.o r (nZ t);rw[l]at G;have hs:kK R (k+1)=kK R k+r.m:=yC t;have J:allM (R.take (k+1))=allM (R.take k)++r.xs:=X3 t;have f:kK R k+r.m<=c1:=by
      have:=CX R (k+1) (j-(k+1));rw[show k+1+(j-(k+1))=j by omega]at this;have:=Y;omega
     have z:∀M,Q=some M->∀i u,r.xs[i]? =some u->wr.cell? (M.add i)=some u:=by
      intro M N i u hu;have h1:=I M N i u hu;have T:=kF w _ h1;exact(b.cell T).trans h1
     obtain⟨m,H⟩:=aP r.m;obtain⟨xs,K⟩:=aP r.xs;rw[<-H]at hs G f L x;rw[<-K]at J z y x;obtain⟨S,B⟩:=aP (kK R k);rw[<-B]at hs f d;rw[<-B];have Z:=hide x;clear B t C I H K l x;have ab:(k:Int)<(j:Int):=(by omega);go_wp2_with (at_builtin;refine wpList_append_fits_any _ rfl (.tmp 31) (.tmp 32) 57 rfl w.heap.size 3 i0 1 underlying57 hi W w.heap.size S c1 (allM (R.take k)) rfl d Q m c xs rfl Z.o L z y f ?_;intro w2 P F);have A:=b.grown F b.size (fun q hq=>by cases hq;exact aS _);go_roundw;case rel=>exact⟨k+1,by omega,by go_num,by rw[hs],by rw[hs,J];exact P,A⟩
     case measure=>simp[intOf];omega
    ·obtain rfl:k=j:=by omega
     go_wp2_with fail;go_ret;refine⟨c1,rfl,?_,Step.of_below b⟩;have:=d;rw[kW (by omega)]at this;exact this
def aA5 (n:Nat)(w:aH)(m:1<=n)(hn:n<=1000000):Calls prog 215 #[.slice none 0 0,V n] w fun e w'=>∃cap,e= .returned (.slice (some (U w.heap.size 0)) 0 cap)/\n<=cap/\cap<=maxLen/\(∃d:Array aK,d.size=cap*2/\w'=w.drew.alloc (.cells d 243 (0,0))):=by
 obtain⟨q,hi,p,y,j⟩:=eD YZ;have hold:(Builtin.firstCells q.size 0 (.slice none 0 0)).run prog w.drew= .ok ([]:List aK).toArray w.drew:=OH w.drew q.size 0 0 0;have a:∀u,_:=fun u=>Lib.run_append_grow_zeros (P:=prog) w 240 3 u 243 q (Value.agg #[V 0, .slice none 0 0]) .i64 .i64 OY underlying3 hi p none 0 0 [] hold n m (by omega) (by omega) (by omega) (by rw[j];omega) (by rw[j];simp[Builtin.nextslicecap];split<;>omega);simp only[dS]at a;have c:=grownCap_ge w n 0 243;have b:=I5 w n 0 243 (by unfold maxLen;omega);obtain⟨G,s⟩:=aP (grownCap w n 0 243);rw[<-s]at a c b;clear s;obtain⟨d,f⟩:∃d:Array aK,d=([]:List aK).toArray++Builtin.zeroCells (Value.agg #[V 0, .slice none 0 0]).cells n++Builtin.zeroCells (Value.agg #[V 0, .slice none 0 0]).cells (G-n):=⟨_,rfl⟩
 rw[<-f]at a;have i:d.size=G*2:=by
  rw[f,zJ,zJ,jI,jI,show(Value.agg #[V 0, .slice none 0 0]).cells.size=2 from rfl];simp;omega
 have z:=hide i;have l:=hide c;have r:=hide b;have t:(G:Int)<=9223372036854775807:=by unfold maxLen at b;omega
 have x:(0:Int)<(n:Int):=by omega
 clear f i c b hold;go_enter func215,ntmps215;go_wp2_with (at_builtin;refine Lib.wpList_append_run _ rfl _ _ _ _ rfl _ _ rfl rfl _ _ (a _) ?_);go_ret;exact⟨G,rfl,l.o,r.o,d,z.o,rfl⟩
def an9 (a n cap:Nat)(R:List Pt)(w:aH)(ae:R.length=n)(ag:n<=cap)(ah:n<=1000)(ha:∀j r,R[j]? =some r->w.cell? (U a j)=some r.v)(hb:∀r∈R,r.ok w 2)(hp:1<=kK R n)(hR:kK R n<=1000000):Calls prog 206 #[.slice (some (U a 0)) n cap] w fun e w'=>∃c',e= .returned (.slice (some (U w.heap.size 0)) (kK R n) c')/\w'.ownsRow w.heap.size 243 2 (.slice (some (U w.heap.size 0)) (kK R n) c') (kK R n) (allM R)/\O w w':=by
 obtain⟨i0,hi,al,W,an⟩:=eD YZ;have HA:=hide ha;have HB:=hide hb;clear ha hb;go_enter func206,ntmps206;go_wp2_with fail;go_loopw [3,11] (fun sz i wr=>∃j:Nat,j<=n/\i=V (j:Nat)/\sz=V (kK R j:Nat)/\w=wr) (fun _ i _=>n-(intOf i).toNat);case atStart=>exact⟨0,by omega,rfl,rfl,rfl⟩
 case round=>
  obtain⟨j,hj,rfl,rfl,rfl⟩:=hrel;by_cases af:j<n
  ·obtain⟨r,t⟩:∃r,R[j]? =some r:=⟨_,bV (by omega)⟩
   have G:=HA.o j _ t;obtain⟨Q,c,l,_⟩:=(HB.o r (nZ t)).2.2;rw[l]at G;have hs:kK R (j+1)=kK R j+r.m:=yC t;have D:=CX R (j+1) (n-(j+1));rw[show j+1+(n-(j+1))=n by omega]at D;obtain⟨m,H⟩:=aP r.m;rw[<-H]at hs G;obtain⟨S,B⟩:=aP (kK R j);rw[<-B]at hs;rw[hs]at D;rw[<-B];have HS:=hide hs;have am:(S:Int)+(m:Int)<=1000000:=(by omega);clear hs B t H l hR hp D;have ac:(j:Int)<(n:Int):=(by omega);go_wp2_with fail;go_roundw;case rel=>exact⟨j+1,by omega,by go_num,by rw[HS.o];go_num,bT⟩
   case measure=>simp[intOf];omega
  ·obtain rfl:j=n:=by omega
   go_wp2_with (go_at_call 215;apply(aA5 (kK R j) _ hp hR).mono;rintro e w1 ⟨c1,rfl,Y,aa,X,ak,aj⟩)
   have d:(w.alloc (.cells X 243 (0,0))).drew.ownsRow w.heap.size 243 2 (.slice (some (U w.heap.size 0)) 0 c1) 0 []:=
    ⟨by simp, .inr ⟨w.heap.size,c1,X,rfl,aS _,aR _ _,by omega,aa,by omega,by simp⟩⟩
   have b:Below w.heap.size w (w.alloc (.cells X 243 (0,0))).drew:=((qK w.heap.size w).alloc (aS _) _).drew;go_loopw [6,27] (fun s i wr=>∃k:Nat,k<=j/\i=V k/\s= .slice (some (U w.heap.size 0)) (kK R k) c1/\wr.ownsRow w.heap.size 243 2 (.slice (some (U w.heap.size 0)) (kK R k) c1) (kK R k) (allM (R.take k))/\Below w.heap.size w wr) (fun _ i _=>j-(intOf i).toNat);case atStart=>exact⟨0,by omega,rfl,rfl,d,b⟩
   case round=>
    obtain⟨k,hk,rfl,rfl,d,b⟩:=hrel;by_cases ai:k<j
    ·obtain⟨r,t⟩:∃r,R[k]? =some r:=⟨_,bV (by omega)⟩
     have C:=HA.o k _ t;have G:=(b.cell (p:=(U a k)) (kF w _ C)).trans C;obtain⟨x,y,Q,c,l,L,I⟩:=HB.o r (nZ t);rw[l]at G;have hs:kK R (k+1)=kK R k+r.m:=yC t;have J:allM (R.take (k+1))=allM (R.take k)++r.xs:=X3 t;have f:kK R k+r.m<=c1:=by
      have:=CX R (k+1) (j-(k+1));rw[show k+1+(j-(k+1))=j by omega]at this;have:=Y;omega
     have z:∀M,Q=some M->∀i u,r.xs[i]? =some u->wr.cell? (M.add i)=some u:=by
      intro M N i u hu;have h1:=I M N i u hu;have T:=kF w _ h1;exact(b.cell T).trans h1
     obtain⟨m,H⟩:=aP r.m;obtain⟨xs,K⟩:=aP r.xs;rw[<-H]at hs G f L x;rw[<-K]at J z y x;obtain⟨S,B⟩:=aP (kK R k);rw[<-B]at hs f d;rw[<-B];have Z:=hide x;clear B t C I H K l x;have ab:(k:Int)<(j:Int):=(by omega);go_wp2_with (at_builtin;refine wpList_append_fits_any _ rfl (.tmp 31) (.tmp 32) 240 rfl w.heap.size 243 i0 2 OY hi W w.heap.size S c1 (allM (R.take k)) rfl d Q m c xs rfl Z.o L z y f ?_;intro w2 P F);have A:=b.grown F b.size (fun q hq=>by cases hq;exact aS _);go_roundw;case rel=>exact⟨k+1,by omega,by go_num,by rw[hs],by rw[hs,J];exact P,A⟩
     case measure=>simp[intOf];omega
    ·obtain rfl:k=j:=by omega
     go_wp2_with fail;go_ret;refine⟨c1,rfl,?_,Step.of_below b⟩;have:=d;rw[kW (by omega)]at this;exact this
open Go.Shelf Go.Sort
def WQ {u:aK}{t:TypeId}{m n:Nat}{xs ys:List aK}(j:Nat)(r:Pt)(h:([⟨u,m,xs⟩,⟨v,n,ys⟩]:List Pt)[j]? =some r):(w.alloc (.cells #[u,v] t)).cell? (U w.heap.size j)=some r.v:=by
 refine aC (aR _ _) j _ ?_;match j,h with
 |0,h=>cases h;rfl
 |1,h=>cases h;rfl
def vL.pt {l:List Pe}(h:vL w v l):Pt.ok w 2 ⟨v,l.length,cellsE l⟩:=by
 refine⟨tJ l,zQ l,?_⟩;rcases h with⟨rfl,rfl⟩|⟨g,cap,rfl,e,d,b⟩
 ·exact⟨none,0,rfl,fun _=>⟨rfl,rfl⟩,fun c h=>by cases h⟩
 ·refine⟨some (U g 0),cap,rfl,fun h=>(by cases h),fun c h j u a=> ?_⟩;cases h;rw[show(Addr.add (U g 0) j)=(U g j) by simp[Addr.add];omega];exact b.cells j u a
def WA (blk cap:Nat)(a:List Pe)(w:aH)(R:RowK Pe.enc 2 w blk 0 a.toArray)(b:a.length<1073741824):Calls prog 207 #[.slice (some (U blk 0)) a.length cap,Tx] w fun e w'=>e= .returned (.tuple #[])/\mX w blk 0 (dU a) w':=by
 have h:=Rz blk 0 cap a w w R (SWK.start R.hH) b;unfold Tx at h|-
 have H:=hide h;obtain⟨n,hn⟩:∃n,a.length=n:=⟨_,rfl⟩
 rw[hn]at H|-
 clear h hn R;go_enter func207,ntmps207;go_wp2_with (go_at_call 216;apply H.o.mono;rintro e w' ⟨rfl,c⟩);go_end0;exact⟨rfl,c⟩
def Nb (u v:aK)(S Q:List Pe)(w:aH)(I:vL w u S)(x:vL w v Q)(hs:1<=S.length)(Z:S.length+Q.length<=1000000):Calls prog 197 #[u,v] w fun e w'=>∃J,e= .returned J/\vL w' J (dU (S++Q))/\(∀b,J.ownBlock=some b->w.heap.size<=b)/\O w w':=by
 obtain⟨C,F,rfl⟩:∃p c,u= .slice p S.length c:=by obtain⟨_,_,p,c,h,_⟩:=I.pt;exact⟨p,c,h⟩
 obtain⟨H,D,rfl⟩:∃p c,v= .slice p Q.length c:=by obtain⟨_,_,p,c,h,_⟩:=x.pt;exact⟨p,c,h⟩
 have a:O w (w.alloc (.cells #[.slice C S.length F, .slice H Q.length D] 240)):=(aU _ _).alloc _;have T:=hide (I.step a).pt;have HV:=hide (x.step a).pt;have z:=hide a;have m:kK [⟨.slice C S.length F,S.length,cellsE S⟩,⟨.slice H Q.length D,Q.length,cellsE Q⟩] 2=(S++Q).length:=by simp[kK]
 have j:allM [⟨.slice C S.length F,S.length,cellsE S⟩,⟨.slice H Q.length D,Q.length,cellsE Q⟩]=cellsE (S++Q):=by rw[xK];simp[allM]
 have L:(S++Q).length=S.length+Q.length:=by simp
 have t:=hide (aQ m j);clear I x m j a;go_enter func197,ntmps197;go_wp2_with fail;apply(an9 w.heap.size 2 2 [⟨.slice C S.length F,S.length,cellsE S⟩,⟨.slice H Q.length D,Q.length,cellsE Q⟩] (w.alloc _) rfl (by omega) (by omega) WQ ?cb ?cp ?cr).mono;case cb=>
  intro r X;simp only[fE,wQ,or_false]at X;rcases X with rfl|rfl
  ·exact T.o
  ·exact HV.o
 case cp=>rw[t.o.1];omega
 case cr=>rw[t.o.1];omega
 rintro e w1 ⟨W,rfl,d,G⟩;rw[t.o.1,t.o.2]at d;rw[t.o.1];have hp:=vL.D6 d;obtain⟨blk,f⟩:=aP ((w.alloc (.cells #[.slice C S.length F, .slice H Q.length D] 240)).heap.size);rw[<-f]at d hp|-
 obtain⟨K,aa⟩|⟨g,cap,x,B,Y,s⟩:=hp
 ·cases K
 ·cases x;have q:=WA blk W (S++Q) w1 (aC9 s.holds Y) (by omega);have M:w.heap.size<blk:=by rw[f];simp
  have l:=z.o.trans G;have N:=hide l;have P:=hide s;unfold Tx at q;obtain⟨n,hn⟩:∃n,(S++Q).length=n:=⟨_,rfl⟩
  rw[hn]at q B|-
  have HN:=hide hn;clear G l d s f L t T HV z hn;go_wp2_with (go_at_call 207;apply q.mono;rintro e w2 ⟨rfl,h2⟩);go_ret;have A:=h2.step;have R:=HN.o;refine⟨_,rfl, .inr ⟨blk,W,by rw[eT,R];rfl,by rw[eT,R];exact B,by have:=A.size;omega,vP.ac2 (SWK.holds h2 Y P.o.holds (by simp[eT]))⟩,fun b Z=>by cases Z;exact Nat.le_of_lt M,N.o.trans' A (fun i hi y=>by omega)⟩
end Go.Proofs.YtbpahojchgpdnaaGreatDoor
namespace Go.dM
variable {g k:Nat} {w w':aH} {v:aK}
def comes (L:aD)(n:Nat):aD:=(List.range n).filter fun i=>decide (0<L[i]?.getD 0)
def often (L:aD)(i:Nat):Nat:=L[i]?.getD 0
def QU (L:aD)(n:Nat):comes L (n+1)=if 0<often L n then comes L n++[n]else comes L n:=by
 unfold comes often;rw[FZ,List.filter_append];by_cases h:0<L[n]?.getD 0
 ·simp[h]
 ·simp[h]
def tO (L:aD)(n:Nat):(comes L n).Nodup:=List.nodup_range.sublist List.filter_sublist
def oQ (L:aD)(n i:Nat):i∈comes L n↔i<n/\0<often L i:=by simp[comes,often]
def qZ (L:aD)(n:Nat):(comes L n).length<=n:=by have:=List.length_filter_le (fun i=>decide (0<L[i]?.getD 0)) (List.range n);simpa[comes]using this
end Go.dM
namespace Go.Proofs.YtbpahojchgpdnaaGreatDoor
open Go.RowKit Go.Shelf Go.Lib Go.Sort Go.dM Go.Proofs.Tryz
variable {g k:Nat} {w w':aH} {v:aK}
def gG (w:aH)(g off:Nat)(L:aD):Prop:=∀i:Nat,i<L.length->w.cell? ⟨g,off+i,none⟩=some (V (often L i:Nat))
def gG.step {S:Nat->Prop}{off:Nat}{L:aD}(h:gG w g off L)(hs:Step S w w')(hn:¬S g):gG w' g off L:=fun i hi=>hs.cell (h i hi) hn
def EF.nums {p:Pe}(h:EF w p):gG w p.g 0 p.s:=fun i hi=>by
 rw[dS]
 exact h.2.2 i _ (by unfold often;rw[bV hi];rfl)
structure xX (B:Nat)(w:aH)(v:aK)(S:List Pe):Prop where
 row:w.ownsRow B 243 2 v S.length (cellsE S)
 sy:∀p∈S,EF w p
 ne:∀p∈S,∀k,v.ownBlock=some k->p.g≠k
 lo:∀p∈S,B<=p.g
def xX.nil (B:Nat)(w:aH):xX B w (.slice none 0 0) []:=⟨⟨rfl, .inl ⟨rfl,rfl⟩⟩,fun p hp=>by simp at hp,fun p hp=>by simp at hp,fun p hp=>by simp at hp⟩
def xX.more {B:Nat}{w2 w4 w5:aH}{S:List Pe}{p:Pe}{cap:Nat}(h:xX B w2 v S)(n:B<=w2.heap.size)(i:O w2 w4)(hp:EF w4 p)(m:w2.heap.size<=p.g)(d:w5.ownsRow B 243 2 (.slice (some (U g 0)) (S.length+1) cap) (S.length+1) (cellsE S++cellsE [p]))(b:w4.grownBy w5 v.ownBlock)(l:v.ownBlock=some g\/w4.heap.size<=g):xX B w5 (.slice (some (U g 0)) (S.length+1) cap) (S++[p]):=by
 have c:∀k,v.ownBlock=some k->k<w2.heap.size:=fun k hk=>(h.row.lt k hk).2;have f:Step (fun k=>v.ownBlock=some k) w4 w5:=⟨b.os,b.tape,b.output,b.size,fun k hk hn=>b.block k hk (fun e=>hn e.symm)⟩
 refine⟨by rw[aN,xK];exact d,fun q a=> ?_,fun q a k hk=> ?_,fun q a=> ?_⟩
 ·rcases iF.1 a with a|a
  ·exact((h.sy q a).step i (fun y=>y)).step f (fun y=>h.ne q a _ y rfl)
  ·cases qB.1 a;exact hp.step f (fun y=>by have:=c _ y;omega)
 ·have j:k=g:=by cases hk;rfl
  subst j;rcases iF.1 a with a|a
  ·rcases l with e|e
   ·exact h.ne q a _ e
   ·have:=(h.sy q a).2.1;have:=i.size;omega
  ·cases qB.1 a;rcases l with e|e
   ·have:=c _ e;omega
   ·have:=hp.2.1;omega
 ·rcases iF.1 a with a|a
  ·exact h.lo q a
  ·cases qB.1 a;omega
def Tq (g off cap:Nat)(L:aD)(w:aH)(h:gG w g off L)(hL:L.length<=1000)(f:∀i,often L i<=1000000000):Calls prog 196 #[.slice (some (U g off)) L.length cap] w fun e w'=>∃v S,e= .returned v/\xX w.heap.size w' v S/\S.map Pe.pa=(comes L L.length).map (mk1 (often L))/\O w w':=by
 obtain⟨i0,hi,Y,W,K⟩:=eD YZ;obtain⟨B,P⟩:=aP w.heap.size;rw[<-P];have HB:=hide P;have HI:=hide h;clear h P;go_enter func196,ntmps196;go_wp2_with fail;go_loopw [3,8] (fun u3 u8 wr=>∃(k:Nat) (v:aK) (S:List Pe),u8=V (k:Nat)/\u3=v/\k<=L.length/\xX B wr v S/\S.map Pe.pa=(comes L k).map (mk1 (often L))/\B<=wr.heap.size/\O w wr) (fun _ u8 _=>L.length-(intOf u8).toNat);case atStart=>exact⟨0,_,[],rfl,rfl,by omega,xX.nil _ _,rfl,by have:=HB.o;omega,aU _ _⟩
 case round=>
  obtain⟨k,v,S,rfl,rfl,hk,n,d,J,p⟩:=hrel;have b:=hide n;have z:=hide d;have r:=hide p;by_cases Q:k<L.length
  ·have D:(k:Int)<(L.length:Int):=(by omega);have hc:=p.cell (HI.o k Q) (fun y=>y);have ac:S.length<=k:=by
    have h1:=lZ List.length d;simp only[nG]at h1;have:=qZ L k;omega
   have R:=f k;have a:=QU L k;obtain⟨c,t⟩:=aP (often L k);rw[<-t]at hc R a;have HC:=hide t;clear n d p t;by_cases G:0<c
   ·have N:(0:Int)<(c:Int):=(by omega);have F:(c:Int)>0:=(by omega);rw[aA G]at a;have A:=hide a;clear a f;go_wp2_with (at_builtin;refine fQ _ rfl _ _ 240 rfl B 243 i0 _ 2 32 OY hi Y W K rfl (by decide) _ S.length (cellsE S) rfl (by exact(b.o.row.alloc _).alloc _) ⟨wr.heap.size+1,0,none⟩ 1 1 (cellsE [⟨c,[k],wr.heap.size,1⟩]) rfl rfl ?c1 (zQ _) (by decide) ?c3 ?c4 ?c5 ?_);case c1=>
     intro i u hu;have h9:=aR (wr.alloc (.cells #[V (k:Nat)] 3)) (.cells #[V (c:Nat), .slice (some (U wr.heap.size 0)) 1 1] 243);rw[oJ]at h9;have h8:=aC h9 i u (by rw[<-hu];simp[cellsE,Pe.v]);rw[show(Addr.add ⟨wr.heap.size+1,0,none⟩ i)=⟨wr.heap.size+1,i,none⟩ by simp[Addr.add];omega];exact h8
    case c3=>unfold maxLen;omega
    case c4=>omega
    case c5=>simp;omega
    intro g' aa w5 s l hg;obtain⟨w4,m⟩:=aP ((wr.alloc (.cells #[V (k:Nat)] 3)).alloc (.cells #[V (c:Nat), .slice (some (U wr.heap.size 0)) 1 1] 243));rw[<-m]at l;have H:u3.ownBlock=some g'\/w4.heap.size<=g':=(by rw[m];simpa using hg);have q:O wr w4:=(by rw[m];exact((aU _ _).alloc _).alloc _);have M:EF w4 ⟨c,[k],wr.heap.size,1⟩:=by
     have hb:w4.heap[wr.heap.size]? =some (.cells #[V (k:Nat)] 3 (0,0)):=by
      rw[m];exact(dG _ _ _ (by simp)).trans (aR _ _)
     refine⟨by simp,aO hb,fun j x T=> ?_⟩;match j,T with
     |0,T=>cases T;exact aC hb 0 _ rfl
    have n1:=b.o.more J q M (aS _) s l H;have I:O w w5:=(r.o.trans q).grown l (fun k e=>by
     have h1:=(b.o.row.lt k e).1;have h2:=HB.o;exact .inr (by omega))
    have ab:=q.size;have ad:=l.size;have N1:=hide n1;have Z:=hide I;clear s l hg H m q M n1 I b r;go_wp2_with fail;go_roundw;case rel=>
     refine⟨k+1,_,S++[⟨c,[k],wr.heap.size,1⟩],by go_num,rfl,by omega,?_,?_,by omega,Z.o⟩
     ·have:=N1.o;exact this
     ·rw[A.o,sS,sS,z.o,HC.o];rfl
    case measure=>simp[intOf];omega
   ·have N:¬(0:Int)<(c:Int):=(by omega);have F:¬(c:Int)>0:=(by omega);rw[aB G]at a;have A:=hide a;clear a f;go_wp2_with fail;go_roundw;case rel=>exact⟨k+1,_,S,by go_num,rfl,by omega,b.o,by rw[A.o];exact z.o,J,r.o⟩
    case measure=>simp[intOf];omega
  ·have D:¬(k:Int)<(L.length:Int):=(by omega);have C:k=L.length:=(by omega);rw[C]at d;have X:=hide d;clear n d p C z;go_wp2_with fail;go_ret;exact⟨_,rfl,S,b.o,X.o,r.o⟩
end Go.Proofs.YtbpahojchgpdnaaGreatDoor
namespace Go.dM
open Go Go.RowKit
variable {g k:Nat} {w w':aH} {v:aK}
def AB {P:Program}{F:Array Oper}{o:Oper}{a:Act}{K:Act->aH->Prop}{Q:Exit->Act->aH->Prop}{M:Prop}(hg:o.guard=none)(s x:Operand)(t:TypeId)(N:o.op=Op.call { callee:=Callee.builtin Builtin.append,args:=#[s,x],argTypes:=#[t,t] })(base:Nat)(e:TypeId)(i:TypeInfo)(z:aK)(size bytes:Nat)(H:P.underlying t=some (.slice e))(X:P.info? e=some i)(Z:i.zero=some z)(I:i.size=size)(h5:i.bytes=bytes)(Y:z.cells.size=size)(h7:0<size)(v:aK)(n:Nat)(xs:List aK)(hs:a.eval s=v)(q:w.ownsRow base e size v n xs)(B:Addr)(m c:Nat)(news:List aK)(hx:a.eval x= .slice (some B) m c)(hn:news.length=m*size)(L:∀j u,news[j]? =some u->w.cell? (B.add j)=some u)(C:∀u∈news,u.oneCell'=true)(hm:0<m)(b1:n+m<=maxLen)(b2:(n+m)*bytes<=140737488355328)(y:base<=w.heap.size)(hK:∀g cap w',w'.ownsRow base e size (.slice (some (U g 0)) (n+m) cap) (n+m) (xs++news)->w.grownBy w' v.ownBlock->(v.ownBlock=some g\/w.heap.size<=g)->K (a.put o.dst (.slice (some (U g 0)) (n+m) cap)) w'):if Region.wanted o (yielded F a.tmps)=true then Oper.wp P o a w K Q else M:=by
 have hw:Region.wanted o (yielded F a.tmps)=true:=by simp[Region.wanted,hg]
 rw[aA hw];have p:∀l w',(Builtin.append_ #[t,t] o.type #[v, .slice (some B) m c]).run P w= .ok l w'->K (a.put o.dst l) w'->Oper.wp P o a w K Q:=by
  intro l w' b h;unfold Oper.wp;simp[execOp,N,resolve,invoke,builtin,hs,hx,b,Result.andThen];exact h
 have fin:∀l w',w'.ownsRow w.heap.size e size l (n+m) (xs++news)->w.grownBy w' none->K (a.put o.dst l) w':=by
  intro l w' R S;obtain⟨g,d,r⟩:∃g d,l= .slice (some (U g 0)) (n+m) d:=by
   obtain⟨_,⟨_,hz⟩|⟨g,d,J,r,_⟩⟩:=R
   ·omega
   ·exact⟨g,d,r⟩
  subst r;exact hK g d w' (bH R y) (M9 S) (.inr (R.lt g rfl).1)
 have f:=q;obtain⟨hl,⟨G,T⟩|⟨g,cap,J,G,ab,hh,aa,af,ac,ae⟩⟩:=q
 ·subst T;have W:xs=[]:=kP (by omega);subst W G;obtain⟨l,w',b,r1,D,_⟩:=run_append_own (P:=P) w w.heap.size t o.type e i z size bytes H X Z I h5 Y h7 (.slice none 0 0) 0 [] (jJ w _ e size) B m c news hn L C b1 b2 (aS _);exact p l w' b (fin l w' r1 D)
 ·by_cases A:n+m<=cap
  ·subst G;obtain⟨w',b,r1,D⟩:=run_append_fits (P:=P) w base t o.type e i size H X I g n cap xs f B m c news hn L C A;exact p _ _ b (hK g cap w' r1 D (.inl rfl))
  ·subst G;obtain⟨l,w',b,r1,D⟩:=run_append_arg_grows (P:=P) w t o.type e i z size bytes H X Z I h5 Y h7 (U g 0) n cap xs f.1 (fun j u hu=>f.cells rfl j u hu) B m c news hn L (by omega) b1 b2;exact p _ _ b (fin l w' r1 D)
end Go.dM
