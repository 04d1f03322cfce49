import Derived.Test.YtbpahojchgpdnaaGreatDoorMarksC
import Derived.Test.YtbpahojchgpdnaaGreatDoorGzipC
import Derived.Lib.SlBytesConst
set_option maxRecDepth 20000
set_option maxHeartbeats 4000000
set_option linter.all false
namespace Go.Proofs.YtbpahojchgpdnaaGreatDoor
open Go.RowKit Go.Shelf Go.Lib Go.Sort Go.dM Go.Proofs.Tryz
variable {w:aH} {v:aK} {a n way:Nat} {P ys:aD}
def Yh (a1 a2:Option Addr)(n1 c1 n2 c2:Nat)(w:aH):Calls prog 107 #[.slice a1 n1 c1, .slice a2 n2 c2] w fun e w'=>e= .returned (V (Lib.compareInt (n1:Int) (n2:Int)))/\w'=w:=by
 have b:=SL (n1:Int) (n2:Int);generalize Lib.compareInt (n1:Int) (n2:Int)=r at b|-
 go_enter func107,ntmps107;go_wp2_with (go_at_call 108;apply(b _).mono;rintro e w' ⟨rfl,rfl⟩);go_ret;exact⟨rfl,rfl⟩
def Lb (g:Nat)(A:Nat->Option Addr)(n c:Nat->Nat)(w:aH)(z:∀j,j<3->w.cell? (U g j)=some (.slice (A j) (n j) (c j))):Calls prog 106 #[.slice (some (U g 0)) 3 3, .func (.func 107) #[] #[]] w fun e w'=>∃i,i<3/\e= .returned (.slice (A i) (n i) (c i))/\(∀j,j<3->n i<=n j/\(j<i->n i<n j))/\O w w':=by
 have I:=z 0 (by omega);go_enter func106,ntmps106;go_wp2_with fail;go_loopg [5,6] 2 (fun kx u5 u6 wr=>∃i k:Nat,u6=V (i:Nat)/\u5= .slice (A k) (n k) (c k)/\1<=i/\i<=3/\k<i/\kx=3-i/\Hid (∀j,j<i->n k<=n j/\(j<k->n k<n j))/\wr=w);case atStart=>exact⟨1,0,rfl,rfl,by omega,by omega,by omega,by omega,(fun j B=>(by rw[show j=0 by omega];exact⟨aS _,fun y=>by omega⟩):∀j,j<1->n 0<=n j/\(j<0->n 0<n j)),rfl⟩
 case round=>
  obtain⟨i,k,rfl,rfl,D,C,m,F,t,rfl⟩:=hrel;by_cases p:i<3
  ·have d:(i:Int)<3:=(by omega);have ci:=z i p;have H:((i:Int)).toNat=i:=(by omega);have G:(0:Int)<=(i:Int):=(by omega);have u:=Yh (A i) (A k) (n i) (c i) (n k) (c k) wr;have q:=OL (n i:Int) (n k:Int);obtain⟨r,s⟩:=aP (Lib.compareInt (n i:Int) (n k:Int));rw[<-s]at u q;by_cases f:r<0
   ·have b:=q.1 f;have x:Hid (∀j,j<i+1->n i<=n j/\(j<i->n i<n j)):=fun j B=>by
     rcases mK j i with l|l
     ·have:=(t.o j l).1;omega
     ·rw[show j=i by omega];exact⟨aS _,fun y=>by omega⟩
    go_wp2_with (go_at_call 107;apply u.mono;rintro e w1 ⟨rfl,rfl⟩);go_roundg (3-(i+1));case measure=>omega
    case rel=>exact⟨i+1,i,by go_num,rfl,by omega,by omega,by omega,rfl,x,rfl⟩
   ·have b:¬(n i:Int)<(n k:Int):=fun y=>f (q.2 y);have x:Hid (∀j,j<i+1->n k<=n j/\(j<k->n k<n j)):=fun j B=>by
     rcases mK j i with l|l
     ·exact t.o j l
     ·rw[show j=i by omega];exact⟨by omega,fun y=>by omega⟩
    go_wp2_with (go_at_call 107;apply u.mono;rintro e w1 ⟨rfl,rfl⟩);go_roundg (3-(i+1));case measure=>omega
    case rel=>exact⟨i+1,k,by go_num,rfl,by omega,by omega,by omega,rfl,x,rfl⟩
  ·have d:¬(i:Int)<3:=(by omega);have hi:i=3:=(by omega);subst hi;go_wp2_with fail;go_ret;exact⟨k,m,rfl,t.o,aU _ _⟩
def yX (ys:aD)(bits:List Bool):Prop:=∃ps sb fb pb tb,iT ys 0 ps ys.length/\wH 0 ys sb/\iX aW (List.replicate 32 5) ps pb/\pb.length<=48*ps.length/\fb=bS true 1++pb++dN aW 256/\zB ps tb/\(bits=sb\/bits=fb\/bits=tb)/\
 (bits.length+7)/8<=(sb.length+7)/8/\(bits.length+7)/8<=(fb.length+7)/8/\(bits.length+7)/8<=(tb.length+7)/8/\nE ys 0 ps ys.length/\
 bits=if(sb.length+7)/8<=(fb.length+7)/8/\(sb.length+7)/8<=(tb.length+7)/8 then sb else if(fb.length+7)/8<=(tb.length+7)/8 then fb else tb
def MF {ys:aD}(e:∀i:Nat,ys[i]?.getD 0<256):∀{d:List Pc} {q r:Nat},iT ys q d r->∀p∈d,BP p
 |[],_,_,_=>fun p hp=>by simp at hp
 |p::d,q,r,⟨_,h2,h3⟩=>fun x c=>by
  rcases fE.1 c with rfl|c
  ·rcases h2 with⟨a,b⟩|⟨a1,a2,j,f,g,m,k,l⟩
   ·exact .inl ⟨a,by rw[b];exact e q⟩
   ·exact .inr ⟨a1,a2,f,g⟩
  ·exact MF e h3 x c
def uZ {w':aH}{bits:List Bool}(h:oI w w' v bits):∃a c,v= .slice a ((bits.length+7)/8) c:=by obtain⟨B,b,_,d,_⟩:=h;obtain⟨a,c,h⟩:=y8 b;exact⟨a,c,by rw[h,d]⟩
def oI.later {w1 w' b:aH}{bits:List Bool}(h:oI w1 w' v bits)(hs:O w w1)(c:O w' b):oI w b v bits:=by obtain⟨B,b1,b2,e,d⟩:=h;exact⟨B,tV (bH b1 hs.size) c (fun _ _ y=>y),b2,e,(hs.trans d).trans c⟩
def Am (u:aK)(ys:aD)(w:aH)(hu:BytesIn w u ys)(hO:bL w)(h4:4<=w.heap.size):Calls prog 63 #[u] w fun e w'=>∃v' bits,e= .returned v'/\yX ys bits/\bits.length<=800000000/\oI w w' v' bits:=by
 have ao:=hu.len;have W:∀i:Nat,ys[i]?.getD 0<256:=fun i=>by
  rcases mK i ys.length with y|y
  ·rw[bV y];exact hu.byte _ (vE y)
  ·rw[fZ y];exact(by decide)
 obtain⟨R,G⟩:=Ph ys.length 0 ys (aS _);have ab:=hide W;have HC:=hide (find_ok u ys w hu);have HO:=hide hO;obtain⟨ua,uc,X⟩:=hu.shape;obtain⟨m,hm⟩:=aP ys.length;rw[<-hm]at X;subst X;have HM:=hide hm;clear hm W hO;go_enter func63,ntmps63;go_wp2_with fail;apply HC.o.mono;rintro r w1 ⟨pv,ps,rfl,S⟩;have am:=S.pcs.count;have Q:=XF S.row;have A:=S.st;have ar:=A.size;have aa:∀a n c,pv= .slice a n c->n<=c:=fun a n c e=>by
  obtain⟨_,⟨hv,_⟩|⟨g,cap,_,hv,_,_,ai,_⟩⟩:=S.row
  ·rw[e]at hv;cases hv;omega
  ·rw[e]at hv;cases hv;exact ai
 have k1:=EP (.slice ua m uc) ys R w1 (hu.step0 A) G;have K:=hide S;have N:=hide (aQ Q aa);obtain⟨pa,pn,pc,rfl⟩:∃a n c,pv= .slice a n c:=by
  rcases Q with⟨_,h⟩|⟨j',an,cap,h,_⟩
  ·exact⟨_,_,_,h⟩
  ·exact⟨_,_,_,h⟩
 clear S Q aa HC;go_wp2_with fail;apply k1.mono;rintro r w2 ⟨v2,rfl,H⟩;obtain⟨sa,Z,rfl⟩:=uZ H;have l:O w1 w2:=by obtain⟨_,_,_,_,h⟩:=H;exact h
 have au:=l.size;have I:=N.o.1.step0 l;have k2:=JK (.slice pa pn pc) ps w2 I (D7 ab.o K.o.pcs) (by omega);have ah:=hide H;clear H I;go_wp2_with fail;apply k2.mono;rintro r w3 ⟨v3,pb,rfl,x,t,p⟩;obtain⟨T,k⟩:=aP (bS true 1++pb++dN aW 256);rw[<-k]at p;obtain⟨fa,fc,rfl⟩:=uZ p;have s:O w2 w3:=by obtain⟨_,_,_,_,h⟩:=p;exact h
 have aq:=s.size;have q:=l.trans s;have L:=N.o.1.step0 q;have k3:=Gb (.slice pa pn pc) ps w3 L N.o.2 (MF ab.o K.o.pcs) (by omega) (HO.o.step (A.trans q) (fun _ _ y=>y)) (by omega);have K3:=hide k3;have aj:=hide (aQ p (aQ k (aQ x t)));have J:=hide s;clear k3 p s L k x t q;go_wp2_with fail;apply K3.o.mono;rintro r w4 ⟨v4,tb,rfl,b,z⟩;obtain⟨ta,Y,rfl⟩:=uZ z;have f:O w3 w4:=by obtain⟨_,_,_,_,h⟩:=z;exact h
 have ap:=f.size;obtain⟨n0,F⟩:=aP ((R.length+7)/8);obtain⟨n1,D⟩:=aP ((T.length+7)/8);obtain⟨n2,C⟩:=aP ((tb.length+7)/8);rw[<-F,<-D,<-C];obtain⟨o5,M⟩:∃o:Obj,o= .cells #[.slice sa n0 Z, .slice fa n1 fc, .slice ta n2 Y] 31:=⟨_,rfl⟩
 have ad:(w4.alloc o5).heap[w4.heap.size]? =some (.cells #[.slice sa n0 Z, .slice fa n1 fc, .slice ta n2 Y] 31 (0,0)):=by rw[M];exact aR _ _
 have k4:=Lb w4.heap.size (fun j=>if j=0 then sa else if j=1 then fa else ta) (fun j=>if j=0 then n0 else if j=1 then n1 else n2) (fun j=>if j=0 then Z else if j=1 then fc else Y) (w4.alloc o5) (fun j hj=>by
  refine aC ad j _ ?_;have:j=0\/j=1\/j=2:=by omega
  rcases this with rfl|rfl|rfl<;>rfl)
 rw[M]at k4;have K4:=hide k4;have ag:=hide (aQ z (aQ b f));have HN:=hide (aQ F (aQ D C));clear k4 z b f F D C ad M K3;go_wp2_with fail;apply K4.o.mono;rintro r w5 ⟨i,hi,rfl,d,ae⟩;obtain⟨p,k,x,t⟩:=aj.o;obtain⟨z,b,f⟩:=ag.o;obtain⟨F,D,C⟩:=HN.o;have B:O w4 w5:=((aU _ _).alloc _).trans ae;have q2:=ah.o.later A ((J.o.trans f).trans B);have q3:=p.later (A.trans l) (f.trans B);have q4:=z.later ((A.trans l).trans J.o) B;have al:T.length<=48*ys.length+18:=by
  have:=vX 256;rw[k,aN,aN,aT,fP];omega
 have af:∃bits,yX ys bits/\bits.length<=800000000/\oI w w5 (.slice (if i=0 then sa else if i=1 then fa else ta) (if i=0 then n0 else if i=1 then n1 else n2) (if i=0 then Z else if i=1 then fc else Y)) bits:=by
  have ak:i=0\/i=1\/i=2:=by omega
  rcases ak with rfl|rfl|rfl
  ·have m1:=d 1 (by omega);have m2:=d 2 (by omega);simp at m1 m2;refine⟨R,⟨ps,R,T,pb,tb,K.o.pcs,G,x,t,k,b, .inl rfl,aS _,?_,?_,K.o.are,?_⟩,?_,?_⟩
   ·omega
   ·omega
   ·rw[aA (by omega)]
   ·omega
   ·rw[<-F]at q2;exact q2
  ·have m0:=d 0 (by omega);have m2:=d 2 (by omega);simp at m0 m2;refine⟨T,⟨ps,R,T,pb,tb,K.o.pcs,G,x,t,k,b, .inr (.inl rfl),?_,aS _,?_,K.o.are,?_⟩,by omega,?_⟩
   ·omega
   ·omega
   ·rw[aB (by omega),aA (by omega)]
   ·rw[<-D]at q3;exact q3
  ·have m0:=d 0 (by omega);have m1:=d 1 (by omega);simp at m0 m1;refine⟨tb,⟨ps,R,T,pb,tb,K.o.pcs,G,x,t,k,b, .inr (.inr rfl),?_,?_,aS _,K.o.are,?_⟩,?_,?_⟩
   ·omega
   ·omega
   ·rw[aB (by omega),aB (by omega)]
   ·omega
   ·rw[<-C]at q4;exact q4
 have ac:=hide af;generalize(if i=0 then sa else if i=1 then fa else ta)=A9 at*;generalize(if i=0 then n0 else if i=1 then n1 else n2)=N9 at*;generalize(if i=0 then Z else if i=1 then fc else Y)=C9 at*;go_wp2_with fail;go_ret;obtain⟨bits,f1,f2,f3⟩:=ac.o;exact⟨_,bits,rfl,f1,f2,f3⟩
end Go.Proofs.YtbpahojchgpdnaaGreatDoor
namespace Go.Proofs.YtbpahojchgpdnaaGreatDoor
open Go.RowKit Go.dM Go.Maps Go.Proofs.Tryz
variable {w:aH} {v:aK} {a n way:Nat} {P ys:aD}
def Na (s:bY):(⟨s.data.toList.toArray⟩:bY)=s:=by cases s;simp
def GR {W:aH}{base:Nat}{s:bY}(h:w.ownsRow base 5 1 v (bytesOf s).length (jR (bytesOf s)))(f:∀k,v.ownBlock=some k->W.heap[k]? =w.heap[k]?):(convert 31 9 v).run prog W= .ok (.string s) W:=by
 have c:=bX h f;rw[bytesOf_length]at c;have o:=c;obtain⟨_,⟨b,hn⟩|⟨g,cap,i,b,_⟩⟩:=c
 ·have hs:s=ByteArray.empty:=by
   cases s with
   |mk d=>have:d.size=0:=hn;simp at this;subst this;rfl
  rw[b,hs];exact run_convert_bytes_nil W 31 5 underlying31 underlying5 0 0 9 underlying9
 ·subst b;have m:s.data.toList.length=s.size:=by simp
  have:=run_convert_bytes_back W 31 9 5 (U g 0) cap s.data.toList underlying31 underlying5 underlying9 (fun j p=>by
   have l:=o.cellAt j (by omega);have e:((U g 0):Addr).add j=(U g j):=(by unfold Addr.add;split<;>simp_all);rw[e,l];have q:j<(bytesOf s).length:=(by rw[bytesOf_length];omega);simp[jR,bytesOf,kE,bV p])
  rw[m,Na]at this;exact this
def Wn (n:Nat)(h:n<=1048576):asked (n:Int)=n:=by unfold asked;rw[aB (by omega),aB (by omega)];omega
def RN (kind:Nat)(P ys:aD):P.length<=(iM kind P ys).length/\(iM kind P ys).length<=P.length+18:=by
 unfold iM;split
 ·simp[lK,OO];omega
 ·split
  ·simp[lJ,ET];omega
  ·omega
def R6 {bits:List Bool}(h:wH n ys bits):bits.length<=9*ys.length+50:=by
 induction h with
 |last n ys h=>
  have:=qL n ys true;omega
 |more n ys bits h b ih=>
  have:=qL n (ys.take 65535) false;rw[dF]at this;rw[dX]at ih;rw[aN];omega
def NU (ys:aD)(i:ys.length<=1048576):AZ 0 ys (wH 0 ys):=by obtain⟨bits,b⟩:=Ph ys.length 0 ys (aS _);intro u w c g d;apply(O0 ys bits b u w c g d).mono;rintro e w' ⟨f,rfl,hp⟩;exact⟨f,bits,rfl,b,by have:=R6 b;omega,hp⟩
def Cj {bits:List Bool}(h:wH n ys bits):3<=bits.length:=by
 induction h with
 |last n ys h=>unfold bF;simp only[aN,aT];omega
 |more n ys bits h b ih=>rw[aN];omega
end Go.Proofs.YtbpahojchgpdnaaGreatDoor
namespace Go.Proofs.YtbpahojchgpdnaaGreatDoor
open Go.RowKit Go.Shelf Go.Lib Go.Sort Go.dM Go.Proofs.Tryz
variable {w:aH} {v:aK} {a n way:Nat} {P ys:aD}
def VH (ys:aD):AZ 2 ys (yX ys):=by
 intro u w d j p;have e:=hide (Am u ys w d j p);obtain⟨q,s,b⟩:=d.shape;obtain⟨m,f⟩:=aP ys.length;rw[<-f]at b;subst b;clear d j f;go_enter func40,ntmps40;go_wp2_with fail;apply e.o.mono;rintro r w2 ⟨t,bits,rfl,i,g,hp⟩;obtain⟨a,c,rfl⟩:=uZ hp;obtain⟨n,hn⟩:=aP ((bits.length+7)/8);rw[<-hn]at hp|-
 have k:=hide (aQ i (aQ g hp));clear i g hp hn e;go_wp2_with fail;go_ret;obtain⟨f1,f2,l⟩:=k.o;exact⟨_,bits,rfl,f1,f2,l⟩
def Io {bits:List Bool}(h:yX ys bits)(f:∀i:Nat,ys[i]?.getD 0<256)(b:bQ bits P)(c:P.length=(bits.length+7)/8):wY P ys:=by
 obtain⟨j,q,r,pb,s,e,o,k,l,m,g,p,_⟩:=h;rcases p with rfl|rfl|rfl
 ·refine X7 o (fun y d=> ?_) b c;obtain⟨i,hi⟩:=List.mem_iff_getElem?.1 d;have:=f i;rw[hi]at this;exact this
 ·exact WV ⟨j,pb,e,k,l,m⟩ f b c
 ·exact Vi g e b c
end Go.Proofs.YtbpahojchgpdnaaGreatDoor
namespace Go.Proofs.YtbpahojchgpdnaaGreatDoor
open Go.RowKit Go.dM Go.Maps Go.Proofs.Tryz
variable {w:aH} {v:aK} {a n way:Nat} {P ys:aD}
def J9 (way:Nat)(ys:aD)(bits:List Bool):Prop:=(way=0/\wH 0 ys bits)\/(way=1/\QF ys bits)\/(way=2/\yX ys bits)
def ac6 (way:Nat)(ys:aD)(l:way<=2)(k:ys.length<=1048576):AZ way ys (J9 way ys):=by
 have b:way=0\/way=1\/way=2:=by omega
 intro u w g j i;rcases b with rfl|rfl|rfl
 ·apply(NU ys k u w g j i).mono;rintro e w' ⟨d,bits,c,f,b⟩;exact⟨d,bits,c, .inl ⟨rfl,f⟩,b⟩
 ·apply(PO ys u w g j i).mono;rintro e w' ⟨d,bits,c,f,b⟩;exact⟨d,bits,c, .inr (.inl ⟨rfl,f⟩),b⟩
 ·apply(VH ys u w g j i).mono;rintro e w' ⟨d,bits,c,f,b⟩;exact⟨d,bits,c, .inr (.inr ⟨rfl,f⟩),b⟩
def Sv {bits:List Bool}(h:J9 way ys bits)(e:∀y∈ys,y<256)(c:bQ bits P)(d:P.length=(bits.length+7)/8):wY P ys:=by
 have b:∀i:Nat,ys[i]?.getD 0<256:=OA e;rcases h with⟨_,h⟩|⟨_,h⟩|⟨_,h⟩
 ·exact X7 h e c d
 ·exact WV h.1 b c d
 ·exact Io h b c d
def Zj {d:List Pc}{bits:List Bool}(h:zB d bits):3<=bits.length:=by
 have key:∀{last:Bool} {d:List Pc} {e:List Bool},BJ last d e->3<=e.length:=fun h=>by
  obtain⟨g,j,a,b,c,F,l,bits,_,_,_,_,rfl⟩:=h;simp only[aN,aT];omega
 cases h with
 |last d e h f=>exact key f
 |more d e bits h f i=>rw[aN];have:=key f;omega
def Pf {bits:List Bool}(h:J9 way ys bits)(k:ys.length<=1048576):3<=bits.length/\(bits.length+7)/8<=8388000:=by
 rcases h with⟨_,h⟩|⟨_,h⟩|⟨_,h⟩
 ·have c:=R6 h;have b:=Cj h;omega
 ·have c:=Y4 h.1;have b:3<=bits.length:=by
   obtain⟨f,pb,_,_,_,rfl⟩:=h.1;simp only[aN,aT];omega
  omega
 ·obtain⟨f,l,p,pb,m,c,b,i,o,d,e,g,j,_⟩:=h;have k1:=R6 b;have k2:3<=bits.length:=by
   rcases g with rfl|rfl|rfl
   ·exact Cj b
   ·rw[d];simp only[aN,aT];omega
   ·exact Zj e
  omega
end Go.Proofs.YtbpahojchgpdnaaGreatDoor
namespace Go.Proofs.YtbpahojchgpdnaaGreatDoor
open Go.RowKit Go.Shelf Go.Lib Go.Sort Go.dM Go.Proofs.Tryz
variable {w:aH} {v:aK} {a n way:Nat} {P ys:aD}
def a04 {s x m s' x' i:Nat}(h:LenM n s x m)(f:LenM n s' x' i):s=s'/\x=x'/\m=i:=by
 have e:=TF h f;subst e;refine⟨rfl,?_⟩;rcases h with⟨a1,a2,d,j⟩|⟨a1,a2,d,j,o⟩|⟨a1,a2,d,j,o,p,q⟩
 rotate_left;rotate_left
 ·rcases f with⟨b1,b2,b,c⟩|⟨b1,b2,b,c,g⟩|⟨b1,b2,b,c,g,l,k⟩
  ·omega
  ·omega
  ·have e:m=i:=d.trans b.symm;subst e;exact⟨by omega,rfl⟩
 all_goals
  rcases f with⟨b1,b2,b,c⟩|⟨b1,b2,b,c,g⟩|⟨b1,b2,b,c,g,l,k⟩
  ·omega
  ·omega
  ·omega
def Vz {s x m s' x' f:Nat}(h:tL n s x m)(d:tL n s' x' f):s=s'/\x=x'/\m=f:=by
 have e:=LG h d;subst e;refine⟨rfl,?_⟩;rcases h with⟨a1,a2,g,i⟩|⟨a1,a2,g,i,o,l⟩
 ·rcases d with⟨b1,b2,b,c⟩|⟨b1,b2,b,c,j,k⟩
  ·omega
  ·omega
 ·rcases d with⟨b1,b2,b,c⟩|⟨b1,b2,b,c,j,k⟩
  ·omega
  ·have e:m=f:=g.trans b.symm;subst e;exact⟨by omega,rfl⟩
def BK.one {c d:aD}{p:Pc}{b f:List Bool}(h:BK c d p b)(e:BK c d p f):b=f:=by
 rcases h with⟨a1,a2⟩|⟨a1,s,x,m,q,o,m2,a2,l,j⟩
 ·rcases e with⟨b1,b2⟩|⟨b1,_⟩
  ·rw[a2,b2]
  ·exact absurd a1 b1
 ·rcases e with⟨b1,b2⟩|⟨b1,t,y,k,u,r,k2,b2,i,g⟩
  ·exact absurd b1 a1
  ·obtain⟨rfl,rfl,rfl⟩:=a04 a2 b2;obtain⟨rfl,rfl,rfl⟩:=Vz l i;rw[j,g]
def iX.one {c f:aD}:∀{d:List Pc} {b b':List Bool},iX c f d b->iX c f d b'->b=b'
 |[],b,b',h,h'=>by
  have e:b=[]:=h
  have g:b'=[]:=h'
  rw[e,g]
 |_::_,_,_,⟨b1,b2,hb,h1,h2⟩,⟨c1,c2,hc,k1,k2⟩=>by rw[hb,hc,BK.one h1 k1,iX.one h2 k2]
def Rt {row:aD}{b:Nat}{l c:List Mk}(h:gH row a l b):gH row a c b->l=c:=by
 induction h generalizing c with
 |nil a=>
  intro d;cases d with
  |nil=>rfl
  |cons _ k t l b hk hi r=>have:=r.count;have:=hk.pos;omega
 |cons a k t l b hk hi r ih=>
  intro d;cases d with
  |nil=>have:=r.count;have:=hk.pos;omega
  |cons _ i g c b f e r'=>
   obtain⟨rfl,rfl⟩:=hi.one e;rw[ih r']
def Ow {L:aD}{b c:Nat}(k:b<=a)(f:b<=c)(g:∀i,a<=i->often L i=0)(d:∀i,c<=i->often L i=0)(j:b<a->often L (a-1)≠0)(e:b<c->often L (c-1)≠0):a=c:=by
 rcases zA a c with y|y|y
 ·exact absurd (g (c-1) (by omega)) (e (by omega))
 ·exact y
 ·exact absurd (d (a-1) (by omega)) (j (by omega))
def M8.one {g i:aD}{b c j k e:Nat}{F f:aD}{l m:List Mk}(h:M8 g i a b c F l)(d:M8 g i j k e f m):jL a b c F l=jL j k e f m:=by
 have o:=Ow h.a1 d.a1 h.az d.az h.last.1 d.last.1;subst o;have p:=Ow h.b1 d.b1 h.bz d.bz h.last.2.1 d.last.2.1;subst p;have e3:=Rt h.tells d.tells;subst e3;have r:F=f:=h.fs.trans d.fs.symm;subst r;have q:c=e:=by
  have k1:=h.c1;have k2:=h.c2;have s:=d.c1;have t:=d.c2;rcases zA c e with y|y|y
  ·exact absurd (h.cz (e-1) (by omega) (by omega)) (d.last.2.2 (by omega))
  ·exact y
  ·exact absurd (d.cz (c-1) (by omega) (by omega)) (h.last.2.2 (by omega))
 subst q;rfl
def Cnt.one {g:List Pc}{f1 f2 l t:Nat->Nat}(h:Cnt g f1 f2):Cnt g l t->f1=l/\f2=t:=by
 induction h generalizing l t with
 |nil=>
  intro c;generalize f:([]:List Pc)=q at c;cases c with
  |nil=>exact⟨rfl,rfl⟩
  |lit g p=>simp at f
  |cpy g p=>simp at f
 |lit g p f1 f2 h k ih=>
  intro c;generalize f:g++[p]=q at c;cases c with
  |nil=>simp at f
  |lit i r a b c d=>
   obtain⟨rfl,e⟩:=PE f rfl;simp only[sN,jX]at e;subst e;obtain⟨rfl,rfl⟩:=ih c;exact⟨rfl,rfl⟩
  |cpy i r a b s x m B A m2 c d y u=>
   obtain⟨rfl,e⟩:=PE f rfl;simp only[sN,jX]at e;subst e;exact absurd k d
 |cpy g p f1 f2 s x m B A m2 h k y u ih=>
  intro c;generalize f:g++[p]=q at c;cases c with
  |nil=>simp at f
  |lit i r a b c d=>
   obtain⟨rfl,e⟩:=PE f rfl;simp only[sN,jX]at e;subst e;exact absurd d k
  |cpy i r a b s' x' F D C z c d o j=>
   obtain⟨rfl,e⟩:=PE f rfl;simp only[sN,jX]at e;subst e;obtain⟨rfl,rfl⟩:=ih c;rw[TF y o,LG u j];exact⟨rfl,rfl⟩
def BJ.one {last:Bool}{f:List Pc}{g d:List Bool}(h:BJ last f g)(y:BJ last f d):g=d:=by obtain⟨k,r,a,b,c,F,l,bits,j,z,m,C,rfl⟩:=h;obtain⟨s,t,G,H,A,J,K,e,k1,k2,i,B,rfl⟩:=y;obtain⟨f1,f2,c1,o,p⟩:=j.is_;obtain⟨D,I,c2,e3,x⟩:=k1.is_;obtain⟨rfl,rfl⟩:=c1.one c2;have u:k=s:=o.trans e3.symm;have q:r=t:=p.trans x.symm;subst u q;rw[z.one k2,m.one i]
def zB.one {i:List Pc}{g c:List Bool}(h:zB i g):zB i c->g=c:=by
 induction h generalizing c with
 |last i g h j=>
  intro d;cases d with
  |last _ _ d b=>exact j.one b
  |more _ c e d b f=>omega
 |more i g bits h j k ih=>
  intro d;cases d with
  |last _ _ d b=>omega
  |more _ c e d b f=>rw[j.one b,ih f]
def wH.one {bits c:List Bool}(h:wH n ys bits):wH n ys c->bits=c:=by
 induction h generalizing c with
 |last n ys h=>
  intro d;cases d with
  |last=>rfl
  |more _ _ b d f=>omega
 |more n ys bits h f ih=>
  intro d;cases d with
  |last _ _ d=>omega
  |more _ _ b d e=>rw[ih e]
def QF.one {bits b:List Bool}(h:QF ys bits)(c:QF ys b):bits=b:=by obtain⟨j,pb,d,_,f,rfl⟩:=h.2;obtain⟨i,g,k1,_,k2,rfl⟩:=c.2;have e:=d.one k1;subst e;rw[f.one k2]
def yX.one {bits b:List Bool}(h:yX ys bits)(y:yX ys b):bits=b:=by obtain⟨D,B,q,pb,N,C,A,i,H,z,f,R,G,L,M,p,k⟩:=h;obtain⟨r,l,c,m,o,k1,k2,d,F,s,g,Q,I,J,K,kb,u⟩:=y;have e:=p.one kb;subst e;have j:=A.one k2;subst j;have e3:=i.one d;subst e3;have x:q=c:=z.trans s.symm;subst x;have t:=f.one g;subst t;rw[k,u]
def J9.one {bits c:List Bool}(h:J9 way ys bits)(b:J9 way ys c):bits=c:=by
 rcases h with⟨e,h⟩|⟨e,h⟩|⟨e,h⟩
 ·rcases b with⟨d,b⟩|⟨d,b⟩|⟨d,b⟩
  ·exact h.one b
  ·omega
  ·omega
 ·rcases b with⟨d,b⟩|⟨d,b⟩|⟨d,b⟩
  ·omega
  ·exact h.one b
  ·omega
 ·rcases b with⟨d,b⟩|⟨d,b⟩|⟨d,b⟩
  ·omega
  ·omega
  ·exact h.one b
def Sq {bits:List Bool}{b:aD}(h:bQ bits P)(f:bQ bits b)(m:P.length=(bits.length+7)/8)(l:b.length=(bits.length+7)/8):P=b:=by
 refine wL fun i=> ?_;by_cases hi:i<P.length
 ·have c:i<b.length:=by omega
  rw[bV hi,bV c];have e:∀(Q:aD) (d:i<Q.length),bQ bits Q->Q[i]=aG Q (8*i) 8:=fun Q d j=>by
   have g:=j.byte i;rw[bV d]at g;rw[LH Q i 8 (aS _),bV d];exact(kC g).symm
  have n:∀k,aG P (8*i) k=aG b (8*i) k:=fun k=>by
   induction k with
   |zero=>rfl
   |succ k ih=>rw[aG,aG,ih,h.bit,f.bit]
  rw[e P hi h,e b c f,n 8]
 ·rw[fZ (by omega),fZ (by omega)]
end Go.Proofs.YtbpahojchgpdnaaGreatDoor
