import Derived.Test.YtbpahojchgpdnaaGreatDoorMarksC
import Derived.Test.YtbpahojchgpdnaaGreatDoorGzipC
import Derived.Lib.SlBytesConst
set_option maxRecDepth 20000
set_option maxHeartbeats 4000000
set_option linter.all false
namespace Go.Proofs.YtbpahojchgpdnaaGreatDoor
open Go.RowKit Go.Shelf Go.Lib Go.Sort Go.dM Go.Proofs.Tryz
variable {w:aH} {v:aK} {a n way:Nat} {P ys:aD}
def Yh (a1 a2:Option Addr)(n1 c1 n2 c2:Nat)(w:aH):Calls prog 107 #[.slice a1 n1 c1, .slice a2 n2 c2] w fun e w'=>e= .returned (V (Lib.compareInt (n1:Int) (n2:Int)))/\w'=w:=by
 have b:=SL (n1:Int) (n2:Int);generalize Lib.compareInt (n1:Int) (n2:Int)=r at b|-
 go_enter func107,ntmps107;go_wp2_with (go_at_call 108;apply(b _).mono;rintro e w' ⟨rfl,rfl⟩);go_ret;exact⟨rfl,rfl⟩
def Lb (g:Nat)(A:Nat->Option Addr)(n c:Nat->Nat)(w:aH)(z:∀j,j<3->w.cell? (U g j)=some (.slice (A j) (n j) (c j))):Calls prog 106 #[.slice (some (U g 0)) 3 3, .func (.func 107) #[] #[]] w fun e w'=>∃i,i<3/\e= .returned (.slice (A i) (n i) (c i))/\(∀j,j<3->n i<=n j/\(j<i->n i<n j))/\O w w':=by
 have G:=z 0 (by omega);go_enter func106,ntmps106;go_wp2_with fail;go_loopg [5,6] 2 (fun kx u5 u6 wr=>∃i k:Nat,u6=V (i:Nat)/\u5= .slice (A k) (n k) (c k)/\1<=i/\i<=3/\k<i/\kx=3-i/\Hid (∀j,j<i->n k<=n j/\(j<k->n k<n j))/\wr=w);case atStart=>exact⟨1,0,rfl,rfl,by omega,by omega,by omega,by omega,(fun j B=>(by rw[show j=0 by omega];exact⟨aS _,fun y=>by omega⟩):∀j,j<1->n 0<=n j/\(j<0->n 0<n j)),rfl⟩
 case round=>
  obtain⟨i,k,rfl,rfl,C,D,q,F,m,rfl⟩:=hrel;by_cases s:i<3
  ·have f:(i:Int)<3:=(by omega);have ci:=z i s;have H:((i:Int)).toNat=i:=(by omega);have I:(0:Int)<=(i:Int):=(by omega);have x:=Yh (A i) (A k) (n i) (c i) (n k) (c k) wr;have t:=OL (n i:Int) (n k:Int);obtain⟨r,u⟩:=aP (Lib.compareInt (n i:Int) (n k:Int));rw[<-u]at x t;by_cases l:r<0
   ·have d:=t.1 l;have p:Hid (∀j,j<i+1->n i<=n j/\(j<i->n i<n j)):=fun j B=>by
     rcases mK j i with b|b
     ·have:=(m.o j b).1;omega
     ·rw[show j=i by omega];exact⟨aS _,fun y=>by omega⟩
    go_wp2_with (go_at_call 107;apply x.mono;rintro e w1 ⟨rfl,rfl⟩);go_roundg (3-(i+1));case measure=>omega
    case rel=>exact⟨i+1,i,by go_num,rfl,by omega,by omega,by omega,rfl,p,rfl⟩
   ·have d:¬(n i:Int)<(n k:Int):=fun y=>l (t.2 y);have p:Hid (∀j,j<i+1->n k<=n j/\(j<k->n k<n j)):=fun j B=>by
     rcases mK j i with b|b
     ·exact m.o j b
     ·rw[show j=i by omega];exact⟨by omega,fun y=>by omega⟩
    go_wp2_with (go_at_call 107;apply x.mono;rintro e w1 ⟨rfl,rfl⟩);go_roundg (3-(i+1));case measure=>omega
    case rel=>exact⟨i+1,k,by go_num,rfl,by omega,by omega,by omega,rfl,p,rfl⟩
  ·have f:¬(i:Int)<3:=(by omega);have hi:i=3:=(by omega);subst hi;go_wp2_with fail;go_ret;exact⟨k,q,rfl,m.o,aU _ _⟩
def yX (ys:aD)(bits:List Bool):Prop:=∃ps sb fb pb tb,iT ys 0 ps ys.length/\wH 0 ys sb/\iX aW (List.replicate 32 5) ps pb/\pb.length<=48*ps.length/\fb=bS true 1++pb++dN aW 256/\zB ps tb/\(bits=sb\/bits=fb\/bits=tb)/\
 (bits.length+7)/8<=(sb.length+7)/8/\(bits.length+7)/8<=(fb.length+7)/8/\(bits.length+7)/8<=(tb.length+7)/8/\nE ys 0 ps ys.length/\
 bits=if(sb.length+7)/8<=(fb.length+7)/8/\(sb.length+7)/8<=(tb.length+7)/8 then sb else if(fb.length+7)/8<=(tb.length+7)/8 then fb else tb
def MF {ys:aD}(e:∀i:Nat,ys[i]?.getD 0<256):∀{d:List Pc} {q r:Nat},iT ys q d r->∀p∈d,BP p
 |[],_,_,_=>fun p hp=>by simp at hp
 |p::d,q,r,⟨_,h2,h3⟩=>fun x c=>by
  rcases fE.1 c with rfl|c
  ·rcases h2 with⟨a,b⟩|⟨a1,a2,j,f,g,k,l,m⟩
   ·exact .inl ⟨a,by rw[b];exact e q⟩
   ·exact .inr ⟨a1,a2,f,g⟩
  ·exact MF e h3 x c
def uZ {w':aH}{bits:List Bool}(h:oI w w' v bits):∃a c,v= .slice a ((bits.length+7)/8) c:=by obtain⟨B,b,_,d,_⟩:=h;obtain⟨a,c,h⟩:=y8 b;exact⟨a,c,by rw[h,d]⟩
def oI.later {w1 w' b:aH}{bits:List Bool}(h:oI w1 w' v bits)(hs:O w w1)(c:O w' b):oI w b v bits:=by obtain⟨B,b1,b2,d,e⟩:=h;exact⟨B,tV (bH b1 hs.size) c (fun _ _ y=>y),b2,d,(hs.trans e).trans c⟩
def Am (u:aK)(ys:aD)(w:aH)(hu:BytesIn w u ys)(hO:bL w)(h4:4<=w.heap.size):Calls prog 63 #[u] w fun e w'=>∃v' bits,e= .returned v'/\yX ys bits/\bits.length<=800000000/\oI w w' v' bits:=by
 have an:=hu.len;have ab:∀i:Nat,ys[i]?.getD 0<256:=fun i=>by
  rcases mK i ys.length with y|y
  ·rw[bV y];exact hu.byte _ (vE y)
  ·rw[fZ y];exact(by decide)
 obtain⟨T,H⟩:=Ph ys.length 0 ys (aS _);have W:=hide ab;have HC:=hide (find_ok u ys w hu);have HO:=hide hO;obtain⟨ua,uc,af⟩:=hu.shape;obtain⟨m,hm⟩:=aP ys.length;rw[<-hm]at af;subst af;have HM:=hide hm;clear hm ab hO;go_enter func63,ntmps63;go_wp2_with fail;apply HC.o.mono;rintro r w1 ⟨pv,ps,rfl,S⟩;have al:=S.pcs.count;have Q:=XF S.row;have A:=S.st;have ap:=A.size;have ad:∀a n c,pv= .slice a n c->n<=c:=fun a n c e=>by
  obtain⟨_,⟨hv,_⟩|⟨g,cap,_,hv,_,_,ak,_⟩⟩:=S.row
  ·rw[e]at hv;cases hv;omega
  ·rw[e]at hv;cases hv;exact ak
 have k1:=EP (.slice ua m uc) ys T w1 (hu.step0 A) H;have I:=hide S;have M:=hide (aQ Q ad);obtain⟨pa,pn,pc,rfl⟩:∃a n c,pv= .slice a n c:=by
  rcases Q with⟨_,h⟩|⟨j',ao,cap,h,_⟩
  ·exact⟨_,_,_,h⟩
  ·exact⟨_,_,_,h⟩
 clear S Q ad HC;go_wp2_with fail;apply k1.mono;rintro r w2 ⟨v2,rfl,G⟩;obtain⟨sa,sc,rfl⟩:=uZ G;have l:O w1 w2:=by obtain⟨_,_,_,_,h⟩:=G;exact h
 have aq:=l.size;have K:=M.o.1.step0 l;have k2:=JK (.slice pa pn pc) ps w2 K (D7 W.o I.o.pcs) (by omega);have ag:=hide G;clear G K;go_wp2_with fail;apply k2.mono;rintro r w3 ⟨v3,pb,rfl,x,z,p⟩;obtain⟨R,k⟩:=aP (bS true 1++pb++dN aW 256);rw[<-k]at p;obtain⟨Y,Z,rfl⟩:=uZ p;have s:O w2 w3:=by obtain⟨_,_,_,_,h⟩:=p;exact h
 have ar:=s.size;have q:=l.trans s;have L:=M.o.1.step0 q;have k3:=Gb (.slice pa pn pc) ps w3 L M.o.2 (MF W.o I.o.pcs) (by omega) (HO.o.step (A.trans q) (fun _ _ y=>y)) (by omega);have K3:=hide k3;have ah:=hide (aQ p (aQ k (aQ x z)));have J:=hide s;clear k3 p s L k x z q;go_wp2_with fail;apply K3.o.mono;rintro r w4 ⟨v4,tb,rfl,f,t⟩;obtain⟨ta,tc,rfl⟩:=uZ t;have d:O w3 w4:=by obtain⟨_,_,_,_,h⟩:=t;exact h
 have au:=d.size;obtain⟨n0,B⟩:=aP ((T.length+7)/8);obtain⟨n1,C⟩:=aP ((R.length+7)/8);obtain⟨n2,D⟩:=aP ((tb.length+7)/8);rw[<-B,<-C,<-D];obtain⟨o5,N⟩:∃o:Obj,o= .cells #[.slice sa n0 sc, .slice Y n1 Z, .slice ta n2 tc] 31:=⟨_,rfl⟩
 have aa:(w4.alloc o5).heap[w4.heap.size]? =some (.cells #[.slice sa n0 sc, .slice Y n1 Z, .slice ta n2 tc] 31 (0,0)):=by rw[N];exact aR _ _
 have k4:=Lb w4.heap.size (fun j=>if j=0 then sa else if j=1 then Y else ta) (fun j=>if j=0 then n0 else if j=1 then n1 else n2) (fun j=>if j=0 then sc else if j=1 then Z else tc) (w4.alloc o5) (fun j hj=>by
  refine aC aa j _ ?_;have:j=0\/j=1\/j=2:=by omega
  rcases this with rfl|rfl|rfl<;>rfl)
 rw[N]at k4;have K4:=hide k4;have ai:=hide (aQ t (aQ f d));have HN:=hide (aQ B (aQ C D));clear k4 t f d B C D aa N K3;go_wp2_with fail;apply K4.o.mono;rintro r w5 ⟨i,hi,rfl,b,ae⟩;obtain⟨p,k,x,z⟩:=ah.o;obtain⟨t,f,d⟩:=ai.o;obtain⟨B,C,D⟩:=HN.o;have F:O w4 w5:=((aU _ _).alloc _).trans ae;have q2:=ag.o.later A ((J.o.trans d).trans F);have q3:=p.later (A.trans l) (d.trans F);have q4:=t.later ((A.trans l).trans J.o) F;have am:R.length<=48*ys.length+18:=by
  have:=vX 256;rw[k,aN,aN,aT,fP];omega
 have ac:∃bits,yX ys bits/\bits.length<=800000000/\oI w w5 (.slice (if i=0 then sa else if i=1 then Y else ta) (if i=0 then n0 else if i=1 then n1 else n2) (if i=0 then sc else if i=1 then Z else tc)) bits:=by
  have aj:i=0\/i=1\/i=2:=by omega
  rcases aj with rfl|rfl|rfl
  ·have m1:=b 1 (by omega);have m2:=b 2 (by omega);simp at m1 m2;refine⟨T,⟨ps,T,R,pb,tb,I.o.pcs,H,x,z,k,f, .inl rfl,aS _,?_,?_,I.o.are,?_⟩,?_,?_⟩
   ·omega
   ·omega
   ·rw[aA (by omega)]
   ·omega
   ·rw[<-B]at q2;exact q2
  ·have m0:=b 0 (by omega);have m2:=b 2 (by omega);simp at m0 m2;refine⟨R,⟨ps,T,R,pb,tb,I.o.pcs,H,x,z,k,f, .inr (.inl rfl),?_,aS _,?_,I.o.are,?_⟩,by omega,?_⟩
   ·omega
   ·omega
   ·rw[aB (by omega),aA (by omega)]
   ·rw[<-C]at q3;exact q3
  ·have m0:=b 0 (by omega);have m1:=b 1 (by omega);simp at m0 m1;refine⟨tb,⟨ps,T,R,pb,tb,I.o.pcs,H,x,z,k,f, .inr (.inr rfl),?_,?_,aS _,I.o.are,?_⟩,?_,?_⟩
   ·omega
   ·omega
   ·rw[aB (by omega),aB (by omega)]
   ·omega
   ·rw[<-D]at q4;exact q4
 have X:=hide ac;generalize(if i=0 then sa else if i=1 then Y else ta)=A9 at*;generalize(if i=0 then n0 else if i=1 then n1 else n2)=N9 at*;generalize(if i=0 then sc else if i=1 then Z else tc)=C9 at*;go_wp2_with fail;go_ret;obtain⟨bits,f1,f2,f3⟩:=X.o;exact⟨_,bits,rfl,f1,f2,f3⟩
end Go.Proofs.YtbpahojchgpdnaaGreatDoor
namespace Go.Proofs.YtbpahojchgpdnaaGreatDoor
open Go.RowKit Go.dM Go.Maps Go.Proofs.Tryz
variable {w:aH} {v:aK} {a n way:Nat} {P ys:aD}
def Na (s:bY):(⟨s.data.toList.toArray⟩:bY)=s:=by cases s;simp
def GR {W:aH}{base:Nat}{s:bY}(h:w.ownsRow base 5 1 v (bytesOf s).length (jR (bytesOf s)))(l:∀k,v.ownBlock=some k->W.heap[k]? =w.heap[k]?):(convert 31 9 v).run prog W= .ok (.string s) W:=by
 have b:=bX h l;rw[bytesOf_length]at b;have i:=b;obtain⟨_,⟨c,hn⟩|⟨g,cap,f,c,_⟩⟩:=b
 ·have hs:s=ByteArray.empty:=by
   cases s with
   |mk d=>have:d.size=0:=hn;simp at this;subst this;rfl
  rw[c,hs];exact run_convert_bytes_nil W 31 5 underlying31 underlying5 0 0 9 underlying9
 ·subst c;have p:s.data.toList.length=s.size:=by simp
  have:=run_convert_bytes_back W 31 9 5 (U g 0) cap s.data.toList underlying31 underlying5 underlying9 (fun j o=>by
   have m:=i.cellAt j (by omega);have e:((U g 0):Addr).add j=(U g j):=(by unfold Addr.add;split<;>simp_all);rw[e,m];have q:j<(bytesOf s).length:=(by rw[bytesOf_length];omega);simp[jR,bytesOf,kE,bV o])
  rw[p,Na]at this;exact this
def Wn (n:Nat)(h:n<=1048576):asked (n:Int)=n:=by unfold asked;rw[aB (by omega),aB (by omega)];omega
def RN (kind:Nat)(P ys:aD):P.length<=(iM kind P ys).length/\(iM kind P ys).length<=P.length+18:=by
 unfold iM;split
 ·simp[lK,OO];omega
 ·split
  ·simp[lJ,ET];omega
  ·omega
def R6 {bits:List Bool}(h:wH n ys bits):bits.length<=9*ys.length+50:=by
 induction h with
 |last n ys h=>
  have:=qL n ys true;omega
 |more n ys bits h b ih=>
  have:=qL n (ys.take 65535) false;rw[dF]at this;rw[dX]at ih;rw[aN];omega
def NU (ys:aD)(i:ys.length<=1048576):AZ 0 ys (wH 0 ys):=by obtain⟨bits,b⟩:=Ph ys.length 0 ys (aS _);intro u w f d c;apply(O0 ys bits b u w f d c).mono;rintro e w' ⟨g,rfl,hp⟩;exact⟨g,bits,rfl,b,by have:=R6 b;omega,hp⟩
def Cj {bits:List Bool}(h:wH n ys bits):3<=bits.length:=by
 induction h with
 |last n ys h=>unfold bF;simp only[aN,aT];omega
 |more n ys bits h b ih=>rw[aN];omega
end Go.Proofs.YtbpahojchgpdnaaGreatDoor
namespace Go.Proofs.YtbpahojchgpdnaaGreatDoor
open Go.RowKit Go.Shelf Go.Lib Go.Sort Go.dM Go.Proofs.Tryz
variable {w:aH} {v:aK} {a n way:Nat} {P ys:aD}
def VH (ys:aD):AZ 2 ys (yX ys):=by
 intro u w d f p;have e:=hide (Am u ys w d f p);obtain⟨q,s,b⟩:=d.shape;obtain⟨m,j⟩:=aP ys.length;rw[<-j]at b;subst b;clear d f j;go_enter func40,ntmps40;go_wp2_with fail;apply e.o.mono;rintro r w2 ⟨t,bits,rfl,g,i,hp⟩;obtain⟨a,c,rfl⟩:=uZ hp;obtain⟨n,hn⟩:=aP ((bits.length+7)/8);rw[<-hn]at hp|-
 have k:=hide (aQ g (aQ i hp));clear g i hp hn e;go_wp2_with fail;go_ret;obtain⟨f1,f2,l⟩:=k.o;exact⟨_,bits,rfl,f1,f2,l⟩
def Io {bits:List Bool}(h:yX ys bits)(f:∀i:Nat,ys[i]?.getD 0<256)(b:bQ bits P)(c:P.length=(bits.length+7)/8):wY P ys:=by
 obtain⟨p,r,q,pb,s,e,g,j,k,l,m,o,_⟩:=h;rcases o with rfl|rfl|rfl
 ·refine X7 g (fun y d=> ?_) b c;obtain⟨i,hi⟩:=List.mem_iff_getElem?.1 d;have:=f i;rw[hi]at this;exact this
 ·exact WV ⟨p,pb,e,j,k,l⟩ f b c
 ·exact Vi m e b c
end Go.Proofs.YtbpahojchgpdnaaGreatDoor
namespace Go.Proofs.YtbpahojchgpdnaaGreatDoor
open Go.RowKit Go.dM Go.Maps Go.Proofs.Tryz
variable {w:aH} {v:aK} {a n way:Nat} {P ys:aD}
def J9 (way:Nat)(ys:aD)(bits:List Bool):Prop:=(way=0/\wH 0 ys bits)\/(way=1/\QF ys bits)\/(way=2/\yX ys bits)
def ac6 (way:Nat)(ys:aD)(l:way<=2)(k:ys.length<=1048576):AZ way ys (J9 way ys):=by
 have b:way=0\/way=1\/way=2:=by omega
 intro u w j i g;rcases b with rfl|rfl|rfl
 ·apply(NU ys k u w j i g).mono;rintro e w' ⟨f,bits,c,d,b⟩;exact⟨f,bits,c, .inl ⟨rfl,d⟩,b⟩
 ·apply(PO ys u w j i g).mono;rintro e w' ⟨f,bits,c,d,b⟩;exact⟨f,bits,c, .inr (.inl ⟨rfl,d⟩),b⟩
 ·apply(VH ys u w j i g).mono;rintro e w' ⟨f,bits,c,d,b⟩;exact⟨f,bits,c, .inr (.inr ⟨rfl,d⟩),b⟩
def Sv {bits:List Bool}(h:J9 way ys bits)(e:∀y∈ys,y<256)(c:bQ bits P)(d:P.length=(bits.length+7)/8):wY P ys:=by
 have b:∀i:Nat,ys[i]?.getD 0<256:=OA e;rcases h with⟨_,h⟩|⟨_,h⟩|⟨_,h⟩
 ·exact X7 h e c d
 ·exact WV h.1 b c d
 ·exact Io h b c d
def Zj {d:List Pc}{bits:List Bool}(h:zB d bits):3<=bits.length:=by
 have key:∀{last:Bool} {d:List Pc} {e:List Bool},BJ last d e->3<=e.length:=fun h=>by
  obtain⟨g,i,a,b,c,F,l,bits,_,_,_,_,rfl⟩:=h;simp only[aN,aT];omega
 cases h with
 |last d e h f=>exact key f
 |more d e bits h f j=>rw[aN];have:=key f;omega
def Pf {bits:List Bool}(h:J9 way ys bits)(m:ys.length<=1048576):3<=bits.length/\(bits.length+7)/8<=8388000:=by
 rcases h with⟨_,h⟩|⟨_,h⟩|⟨_,h⟩
 ·have c:=R6 h;have b:=Cj h;omega
 ·have c:=Y4 h.1;have b:3<=bits.length:=by
   obtain⟨g,pb,_,_,_,rfl⟩:=h.1;simp only[aN,aT];omega
  omega
 ·obtain⟨g,o,i,pb,p,c,b,j,k,d,e,f,l,_⟩:=h;have k1:=R6 b;have k2:3<=bits.length:=by
   rcases f with rfl|rfl|rfl
   ·exact Cj b
   ·rw[d];simp only[aN,aT];omega
   ·exact Zj e
  omega
end Go.Proofs.YtbpahojchgpdnaaGreatDoor
namespace Go.Proofs.YtbpahojchgpdnaaGreatDoor
open Go.RowKit Go.Shelf Go.Lib Go.Sort Go.dM Go.Proofs.Tryz
variable {w:aH} {v:aK} {a n way:Nat} {P ys:aD}
def a04 {s x m s' x' i:Nat}(h:LenM n s x m)(g:LenM n s' x' i):s=s'/\x=x'/\m=i:=by
 have e:=TF h g;subst e;refine⟨rfl,?_⟩;rcases h with⟨a1,a2,d,j⟩|⟨a1,a2,d,j,k⟩|⟨a1,a2,d,j,k,p,q⟩
 rotate_left;rotate_left
 ·rcases g with⟨b1,b2,b,c⟩|⟨b1,b2,b,c,f⟩|⟨b1,b2,b,c,f,l,o⟩
  ·omega
  ·omega
  ·have e:m=i:=d.trans b.symm;subst e;exact⟨by omega,rfl⟩
 all_goals
  rcases g with⟨b1,b2,b,c⟩|⟨b1,b2,b,c,f⟩|⟨b1,b2,b,c,f,l,o⟩
  ·omega
  ·omega
  ·omega
def Vz {s x m s' x' f:Nat}(h:tL n s x m)(d:tL n s' x' f):s=s'/\x=x'/\m=f:=by
 have e:=LG h d;subst e;refine⟨rfl,?_⟩;rcases h with⟨a1,a2,g,i⟩|⟨a1,a2,g,i,l,o⟩
 ·rcases d with⟨b1,b2,b,c⟩|⟨b1,b2,b,c,j,k⟩
  ·omega
  ·omega
 ·rcases d with⟨b1,b2,b,c⟩|⟨b1,b2,b,c,j,k⟩
  ·omega
  ·have e:m=f:=g.trans b.symm;subst e;exact⟨by omega,rfl⟩
def BK.one {c d:aD}{p:Pc}{b e:List Bool}(h:BK c d p b)(f:BK c d p e):b=e:=by
 rcases h with⟨a1,a2⟩|⟨a1,s,x,m,o,r,m2,a2,g,i⟩
 ·rcases f with⟨b1,b2⟩|⟨b1,_⟩
  ·rw[a2,b2]
  ·exact absurd a1 b1
 ·rcases f with⟨b1,b2⟩|⟨b1,t,y,k,q,u,k2,b2,j,l⟩
  ·exact absurd b1 a1
  ·obtain⟨rfl,rfl,rfl⟩:=a04 a2 b2;obtain⟨rfl,rfl,rfl⟩:=Vz g j;rw[i,l]
def iX.one {c d:aD}:∀{f:List Pc} {b b':List Bool},iX c d f b->iX c d f b'->b=b'
 |[],b,b',h,h'=>by
  have e:b=[]:=h
  have g:b'=[]:=h'
  rw[e,g]
 |_::_,_,_,⟨b1,b2,hb,h1,h2⟩,⟨c1,c2,hc,k1,k2⟩=>by rw[hb,hc,BK.one h1 k1,iX.one h2 k2]
def Rt {row:aD}{b:Nat}{l c:List Mk}(h:gH row a l b):gH row a c b->l=c:=by
 induction h generalizing c with
 |nil a=>
  intro d;cases d with
  |nil=>rfl
  |cons _ k t l b hk hi r=>have:=r.count;have:=hk.pos;omega
 |cons a k t l b hk hi r ih=>
  intro d;cases d with
  |nil=>have:=r.count;have:=hk.pos;omega
  |cons _ g i c b f e r'=>
   obtain⟨rfl,rfl⟩:=hi.one e;rw[ih r']
def Ow {L:aD}{b c:Nat}(k:b<=a)(f:b<=c)(j:∀i,a<=i->often L i=0)(e:∀i,c<=i->often L i=0)(g:b<a->often L (a-1)≠0)(d:b<c->often L (c-1)≠0):a=c:=by
 rcases zA a c with y|y|y
 ·exact absurd (j (c-1) (by omega)) (d (by omega))
 ·exact y
 ·exact absurd (e (a-1) (by omega)) (g (by omega))
def M8.one {g i:aD}{b c j k e:Nat}{F f:aD}{l m:List Mk}(h:M8 g i a b c F l)(d:M8 g i j k e f m):jL a b c F l=jL j k e f m:=by
 have o:=Ow h.a1 d.a1 h.az d.az h.last.1 d.last.1;subst o;have p:=Ow h.b1 d.b1 h.bz d.bz h.last.2.1 d.last.2.1;subst p;have e3:=Rt h.tells d.tells;subst e3;have q:F=f:=h.fs.trans d.fs.symm;subst q;have r:c=e:=by
  have k1:=h.c1;have k2:=h.c2;have s:=d.c1;have t:=d.c2;rcases zA c e with y|y|y
  ·exact absurd (h.cz (e-1) (by omega) (by omega)) (d.last.2.2 (by omega))
  ·exact y
  ·exact absurd (d.cz (c-1) (by omega) (by omega)) (h.last.2.2 (by omega))
 subst r;rfl
def Cnt.one {g:List Pc}{f1 f2 j k:Nat->Nat}(h:Cnt g f1 f2):Cnt g j k->f1=j/\f2=k:=by
 induction h generalizing j k with
 |nil=>
  intro c;generalize f:([]:List Pc)=q at c;cases c with
  |nil=>exact⟨rfl,rfl⟩
  |lit g p=>simp at f
  |cpy g p=>simp at f
 |lit g p f1 f2 h r ih=>
  intro c;generalize f:g++[p]=q at c;cases c with
  |nil=>simp at f
  |lit i t a b c d=>
   obtain⟨rfl,e⟩:=PE f rfl;simp only[sN,jX]at e;subst e;obtain⟨rfl,rfl⟩:=ih c;exact⟨rfl,rfl⟩
  |cpy i t a b s x m A C m2 c d y u=>
   obtain⟨rfl,e⟩:=PE f rfl;simp only[sN,jX]at e;subst e;exact absurd r d
 |cpy g p f1 f2 s x m A C m2 h r y u ih=>
  intro c;generalize f:g++[p]=q at c;cases c with
  |nil=>simp at f
  |lit i t a b c d=>
   obtain⟨rfl,e⟩:=PE f rfl;simp only[sN,jX]at e;subst e;exact absurd d r
  |cpy i t a b s' x' F B D z c d o l=>
   obtain⟨rfl,e⟩:=PE f rfl;simp only[sN,jX]at e;subst e;obtain⟨rfl,rfl⟩:=ih c;rw[TF y o,LG u l];exact⟨rfl,rfl⟩
def BJ.one {last:Bool}{f:List Pc}{g d:List Bool}(h:BJ last f g)(t:BJ last f d):g=d:=by obtain⟨i,j,a,b,c,F,l,bits,u,x,y,I,rfl⟩:=h;obtain⟨k,m,B,C,D,A,K,e,k1,k2,z,J,rfl⟩:=t;obtain⟨f1,f2,c1,o,p⟩:=u.is_;obtain⟨G,H,c2,e3,q⟩:=k1.is_;obtain⟨rfl,rfl⟩:=c1.one c2;have r:i=k:=o.trans e3.symm;have s:j=m:=p.trans q.symm;subst r s;rw[x.one k2,y.one z]
def zB.one {g:List Pc}{i c:List Bool}(h:zB g i):zB g c->i=c:=by
 induction h generalizing c with
 |last g i h j=>
  intro e;cases e with
  |last _ _ e b=>exact j.one b
  |more _ c d e b f=>omega
 |more g i bits h j k ih=>
  intro e;cases e with
  |last _ _ e b=>omega
  |more _ c d e b f=>rw[j.one b,ih f]
def wH.one {bits c:List Bool}(h:wH n ys bits):wH n ys c->bits=c:=by
 induction h generalizing c with
 |last n ys h=>
  intro d;cases d with
  |last=>rfl
  |more _ _ b d f=>omega
 |more n ys bits h f ih=>
  intro d;cases d with
  |last _ _ d=>omega
  |more _ _ b d e=>rw[ih e]
def QF.one {bits b:List Bool}(h:QF ys bits)(c:QF ys b):bits=b:=by obtain⟨j,pb,d,_,f,rfl⟩:=h.2;obtain⟨i,g,k1,_,k2,rfl⟩:=c.2;have e:=d.one k1;subst e;rw[f.one k2]
def yX.one {bits b:List Bool}(h:yX ys bits)(j:yX ys b):bits=b:=by obtain⟨N,Q,i,pb,R,B,k,l,C,m,o,D,F,G,H,p,q⟩:=h;obtain⟨y,z,c,x,A,k1,k2,r,I,s,t,J,K,L,M,kb,u⟩:=j;have e:=p.one kb;subst e;have d:=k.one k2;subst d;have e3:=l.one r;subst e3;have f:i=c:=m.trans s.symm;subst f;have g:=o.one t;subst g;rw[q,u]
def J9.one {bits c:List Bool}(h:J9 way ys bits)(b:J9 way ys c):bits=c:=by
 rcases h with⟨e,h⟩|⟨e,h⟩|⟨e,h⟩
 ·rcases b with⟨d,b⟩|⟨d,b⟩|⟨d,b⟩
  ·exact h.one b
  ·omega
  ·omega
 ·rcases b with⟨d,b⟩|⟨d,b⟩|⟨d,b⟩
  ·omega
  ·exact h.one b
  ·omega
 ·rcases b with⟨d,b⟩|⟨d,b⟩|⟨d,b⟩
  ·omega
  ·omega
  ·exact h.one b
def Sq {bits:List Bool}{b:aD}(h:bQ bits P)(f:bQ bits b)(m:P.length=(bits.length+7)/8)(l:b.length=(bits.length+7)/8):P=b:=by
 refine wL fun i=> ?_;by_cases hi:i<P.length
 ·have c:i<b.length:=by omega
  rw[bV hi,bV c];have e:∀(Q:aD) (d:i<Q.length),bQ bits Q->Q[i]=aG Q (8*i) 8:=fun Q d j=>by
   have g:=j.byte i;rw[bV d]at g;rw[LH Q i 8 (aS _),bV d];exact(kC g).symm
  have n:∀k,aG P (8*i) k=aG b (8*i) k:=fun k=>by
   induction k with
   |zero=>rfl
   |succ k ih=>rw[aG,aG,ih,h.bit,f.bit]
  rw[e P hi h,e b c f,n 8]
 ·rw[fZ (by omega),fZ (by omega)]
end Go.Proofs.YtbpahojchgpdnaaGreatDoor
