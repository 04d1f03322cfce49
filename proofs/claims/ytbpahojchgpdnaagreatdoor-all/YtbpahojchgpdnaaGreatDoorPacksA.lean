import Derived.Test.YtbpahojchgpdnaaGreatDoorDetPure
import Derived.Test.YtbpahojchgpdnaaGreatDoorArgs
set_option maxRecDepth 20000
set_option maxHeartbeats 4000000
set_option linter.all false
namespace Go.Proofs.YtbpahojchgpdnaaGreatDoor
open Go.RowKit Go.Shelf Go.Lib Go.Sort Go.dM Go.Proofs.Tryz
variable {b1 n wb:Nat} {ys:aD} {b:bY} {W W' w:aH} {ps v vb:aK}
def DT (n:Nat):Nat:=if(n+65534)/65535=0 then 1 else(n+65534)/65535
def tF (n:Nat):Nat:=5*DT n+n
def yP (n:Nat):Nat:=(9*n+10+7)/8
def gI (way n:Nat):Nat:=if way=0\/(way=2/\tF n<yP n)then tF n else yP n
def J4 (n:Nat)(l:aD)(last:Bool)(h:n%8=0):(bF n l last).length=8*(5+l.length):=by
 unfold bF;simp only[aN,aT,aM,iA];have:(dW (n+3)).length=5:=by
  unfold dW;rw[dQ];omega
 omega
def QM {bits:List Bool}(h:wH n ys bits):n%8=0->bits.length=8*tF ys.length:=by
 induction h with
 |last n ys h=>
  intro a;rw[J4 n ys true a];unfold tF DT;split<;>omega
 |more n ys bits h d ih=>
  intro a;have e:=J4 n (ys.take 65535) false a;have c:(ys.take 65535).length=65535:=by rw[dF];omega
  rw[c]at e;have k:=ih (by omega);rw[aN,e,k,dX];unfold tF DT;split<;>split<;>omega
def a06 (s:Nat):aW[s]?.getD 0<=9:=by
 by_cases a:s<288
 ·have:∀i:Fin 288,aW[i.1]?.getD 0<=9:=by decide +kernel
  exact this ⟨s,a⟩
 ·rw[fZ (by have:aW.length=288:=(by decide +kernel);omega)];simp
def al9:aW[257]?.getD 0=7:=by decide +kernel
def Qv:aW[256]?.getD 0=7:=by decide +kernel
def ai2 (s:Nat):(List.replicate 32 5)[s]?.getD 0<=5:=by rw[lY];split<;>simp
def af7 {s:Nat}(h:257<=s):aW[s]?.getD 0<=8:=by
 by_cases c:s<288
 ·have:∀i:Fin 31,aW[257+i.1]?.getD 0<=8:=by decide +kernel
  have a:=this ⟨s-257,by omega⟩;rw[show 257+(s-257)=s by omega]at a;exact a
 ·rw[fZ (by have:aW.length=288:=(by decide +kernel);omega)];simp
def Ci {q:Nat}{p:Pc}{b:List Bool}(h:BK aW (List.replicate 32 5) p b)(hp:NN ys q p):b.length<=9*max 1 p.l:=by
 rcases h with⟨a1,a2⟩|⟨a1,s,x,m,f,z,m2,a2,a,c⟩
 ·rw[a2,fP];have:=a06 p.b;omega
 ·have o:3<=p.l:=by rcases hp with y|y<;>omega
  have j:=ai2 f;have k:=a.bd;have l2:=a2.bd;have u:=af7 l2.2.2.1;rw[c];simp only[aN,fP,aM];by_cases r:p.l=3
  ·rcases a2 with⟨c1,c2,c3,c4⟩|⟨c1,c2,c3,c4,d⟩|⟨c1,c2,c3,c4,d,g,i⟩
   ·omega
   ·have e:s=257:=(by omega);subst e;rw[al9];omega
   ·have:=nC (n:=m) (show 0<2 by omega);have t:4*2^m<=(4+(s-265)%4)*2^m:=mZ _ (by omega);omega
  ·omega
def yV {ys:aD}{r:Nat}:∀{ps:List Pc} {q:Nat} {b:List Bool},iX aW (List.replicate 32 5) ps b->iT ys q ps r->b.length+9*q<=9*r
 |[],q,b,h,h'=>by
  have e:b=[]:=h
  have a:q=r:=h'
  subst e a
  simp
 |p::ps,q,b,⟨b1,b2,hb,h1,h2⟩,⟨_,k2,k3⟩=>by
  have:=yV h2 k3
  have:=Ci h1 k2
  rw[hb,aN]
  omega
def Lh {bits:List Bool}(h:QF ys bits):(bits.length+7)/8<=yP ys.length:=by obtain⟨ps,pb,_,a,c,rfl⟩:=h.2;have:=yV c a;unfold yP;simp only[aN,aT,fP,Qv];omega
def Eo {bits:List Bool}(h:yX ys bits):(bits.length+7)/8<=tF ys.length/\(bits.length+7)/8<=yP ys.length:=by
 obtain⟨ps,o,a,pb,p,c,d,e,g,f,i,j,k,l,_⟩:=h;have k1:=QM d rfl;have k2:=yV e c;have m:(a.length+7)/8<=yP ys.length:=by
  rw[f];unfold yP;simp only[aN,aT,fP,Qv];omega
 omega
def Sz {way:Nat}{bits:List Bool}(h:J9 way ys bits):(bits.length+7)/8=gI way ys.length\/((bits.length+7)/8<gI way ys.length/\0<way):=by
 rcases h with⟨rfl,h⟩|⟨rfl,h⟩|⟨rfl,h⟩
 ·left;have:=QM h rfl;unfold gI;rw[aA (.inl rfl)];omega
 ·have:=Lh h;unfold gI;rw[aB (by omega)];omega
 ·have:=Eo h;unfold gI;split<;>omega
end Go.Proofs.YtbpahojchgpdnaaGreatDoor
namespace Go.Proofs.YtbpahojchgpdnaaGreatDoor
open Go.RowKit Go.dM Go.Proofs.Tryz
variable {b1 n wb:Nat} {ys:aD} {b:bY} {W W' w:aH} {ps v vb:aK}
def xJ (wrap way:Int)(b:bY)(L:aD)(e:Nat):Prop:=
 (¬(0<=wrap/\wrap<=2)/\L=[]/\e=1)\/((0<=wrap/\wrap<=2)/\¬(0<=way/\way<=2)/\L=[]/\e=2)\/
 ((0<=wrap/\wrap<=2)/\(0<=way/\way<=2)/\1048576<b.size/\L=[]/\e=11)\/
 ((0<=wrap/\wrap<=2)/\(0<=way/\way<=2)/\b.size<=1048576/\e=0/\∃bits P,J9 way.toNat (bytesOf b) bits/\bQ bits P/\P.length=(bits.length+7)/8/\L=iM wrap.toNat P (bytesOf b))
def xJ.one {wrap way:Int}{L l:aD}{e m:Nat}(h:xJ wrap way b L e)(i:xJ wrap way b l m):L=l/\e=m:=by
 rcases h with⟨a1,a2,f⟩|⟨a1,a2,f,g⟩|⟨a1,a2,f,g,j⟩|⟨a1,a2,f,g,bits,P,j,o,p,q⟩
 ·rcases i with⟨b1,b2,a⟩|⟨b1,b2,a,c⟩|⟨b1,b2,a,c,d⟩|⟨b1,b2,a,c,_⟩
  ·exact⟨a2.trans b2.symm,f.trans a.symm⟩
  ·exact absurd b1 a1
  ·exact absurd b1 a1
  ·exact absurd b1 a1
 ·rcases i with⟨b1,b2,a⟩|⟨b1,b2,a,c⟩|⟨b1,b2,a,c,d⟩|⟨b1,b2,a,c,_⟩
  ·exact absurd a1 b1
  ·exact⟨f.trans a.symm,g.trans c.symm⟩
  ·exact absurd b2 a2
  ·exact absurd b2 a2
 ·rcases i with⟨b1,b2,a⟩|⟨b1,b2,a,c⟩|⟨b1,b2,a,c,d⟩|⟨b1,b2,a,c,_⟩
  ·exact absurd a1 b1
  ·exact absurd a2 b2
  ·exact⟨g.trans c.symm,j.trans d.symm⟩
  ·omega
 ·rcases i with⟨b1,b2,a⟩|⟨b1,b2,a,c⟩|⟨b1,b2,a,c,d⟩|⟨b1,b2,a,c,k,y,d,r,s,t⟩
  ·exact absurd a1 b1
  ·exact absurd a2 b2
  ·omega
  ·have u:=j.one d;subst u;have x:=Sq o r p s;subst x;exact⟨q.trans t.symm,g.trans c.symm⟩
def Mh {B:Nat}(h:bA w B 5 (b.size+8) (jS b))(f:b.size<=1048576):BytesIn w (.slice (some (U B 0)) b.size (b.size+8)) (bytesOf b):=by
 have e:=RG h (by omega);refine⟨.inr ⟨B,0,b.size+8,by rw[bytesOf_length],fun i hi=>e.cell i hi⟩,fun y g=>pV b y g,fun j off n c d=> ?_,fun a n c d=> ?_,by rw[bytesOf_length];exact f⟩
 ·simp only[nK,fH,wG,jX]at d;have:=h.lt;omega
 ·simp only[nK]at d;omega
def Xz (wrap way:Int)(b:bY)(B:Nat)(w:aH)(h:bA w B 5 (b.size+8) (jS b))(p:b.size<=140737488351232)(j:bL w)(i:4<=w.heap.size):Calls prog 26 #[V wrap,V way, .slice (some (U B 0)) b.size (b.size+8)] w fun r w'=>∃d L e,r= .returned (.tuple #[d,V ((e:Nat):Int)])/\xJ wrap way b L e/\w'.ownsRow w.heap.size 5 1 d L.length (jR L)/\O w w':=by
 have a:∀W:aH,W.ownsRow w.heap.size 5 1 (.slice none 0 0) ([]:aD).length (jR []):=fun W=>jJ _ _ _ _;by_cases hk:0<=wrap/\wrap<=2
 ·by_cases f:0<=way/\way<=2
  ·by_cases hs:1048576<b.size
   ·have c:=hide (show xJ wrap way b [] 11 from .inr (.inr (.inl ⟨hk,f,hs,rfl,rfl⟩)));have k1:¬wrap<0:=(by omega);have k2:¬wrap>2:=(by omega);have q:¬way<0:=(by omega);have g:¬way>2:=(by omega);have s:(b.size:Int)>1048576:=(by omega);go_enter func26,ntmps26;go_wp2_with fail;go_ret2;exact⟨_,[],11,rfl,c.o,a _,aU _ _⟩
   ·obtain⟨k,rfl⟩:∃k:Nat,wrap=(k:Int):=⟨wrap.toNat,by omega⟩
    obtain⟨v,rfl⟩:∃v:Nat,way=(v:Int):=⟨way.toNat,by omega⟩
    refine(ab8 k v (by omega) (by omega) _ _ _ (ac6 v (bytesOf b) (by omega) (by rw[bytesOf_length];omega)) w (Mh h (by omega)) j i).mono ?_;rintro r w' ⟨d,bits,P,rfl,hp⟩;refine⟨d,_,0,rfl, .inr (.inr (.inr ⟨hk,f,by omega,rfl,bits,P,hp.pb,hp.bin,hp.len,rfl⟩)),?_,hp.st⟩;exact hp.row
  ·have c:=hide (show xJ wrap way b [] 2 from .inr (.inl ⟨hk,f,rfl,rfl⟩));have k1:¬wrap<0:=(by omega);have k2:¬wrap>2:=(by omega);by_cases m:way<0;rotate_left;focus
    have g:way>2:=by omega
   all_goals
    go_enter func26,ntmps26;go_wp2_with fail;go_ret2;exact⟨_,[],2,rfl,c.o,a _,aU _ _⟩
 ·have c:=hide (show xJ wrap way b [] 1 from .inl ⟨hk,rfl,rfl⟩);by_cases l:wrap<0;rotate_left;focus
   have g:wrap>2:=by omega
  all_goals
   go_enter func26,ntmps26;go_wp2_with fail;go_ret2;exact⟨_,[],1,rfl,c.o,a _,aU _ _⟩
def ab2 (v n:Nat)(w:aH)(A:v<=2)(hn:n<=1048576):Calls prog 71 #[V v,V n] w fun r w'=>r= .returned (V (gI v n:Nat))/\w'=w:=by
 obtain⟨m,p⟩:=aP ((n+65534)/65535);have y:((n:Int)+65534)/65535=(m:Int):=by omega
 obtain⟨f,t⟩:=aP ((9*n+10+7)/8);have z:(9*(n:Int)+10+7)/8=(f:Int):=by omega
 obtain⟨s,hs⟩:=aP (tF n);have i:m=0->5*1+(n:Int)=(s:Int):=fun h=>by rw[hs];unfold tF DT;rw[<-p,aA h];omega
 have j:m≠0->5*(m:Int)+(n:Int)=(s:Int):=fun h=>by rw[hs];unfold tF DT;rw[<-p,aB h];omega
 have q:gI v n=if v=0\/(v=2/\s<f)then s else f:=by unfold gI yP;rw[<-hs,<-t]
 have c:=hide q;clear q hs p t;by_cases g:m=0
 ·have u:((m:Int)==0)=true:=dI.2 (by omega);have x:=i g;clear i j g;have l:v=0\/v=1\/v=2:=by omega
  rcases l with rfl|rfl|rfl
  ·have a:gI 0 n=s:=(by rw[c.o,aA (.inl rfl)]);have d:=hide (show(s:Int)=(gI 0 n:Nat) by rw[a]);have HB:=hide (show 5+(n:Int)=((gI 0 n:Nat):Int) by rw[a];omega);clear a c;go_enter func71,ntmps71;go_wp2_with fail;go_ret;first|exact⟨by rw[<-d.o];rfl,rfl⟩|exact⟨by rw[<-HB.o];rfl,rfl⟩
  ·have a:gI 1 n=f:=(by rw[c.o,aB (by omega)]);have d:=hide (show(f:Int)=(gI 1 n:Nat) by rw[a]);have HB:=hide (show(9*(n:Int)+10+7)/8=((gI 1 n:Nat):Int) by rw[a];omega);clear a c;go_enter func71,ntmps71;go_wp2_with fail;go_ret;first|exact⟨by rw[<-d.o];rfl,rfl⟩|exact⟨by rw[<-HB.o];rfl,rfl⟩
  ·by_cases k:s<f
   ·have e:(s:Int)<(f:Int):=(by omega);have a:gI 2 n=s:=(by rw[c.o,aA (.inr ⟨rfl,k⟩)]);have d:=hide (show(s:Int)=(gI 2 n:Nat) by rw[a]);have HB:=hide (show 5+(n:Int)=((gI 2 n:Nat):Int) by rw[a];omega);clear a c;go_enter func71,ntmps71;go_wp2_with fail;go_ret;first|exact⟨by rw[<-d.o];rfl,rfl⟩|exact⟨by rw[<-HB.o];rfl,rfl⟩
   ·have e:¬(s:Int)<(f:Int):=(by omega);have a:gI 2 n=f:=(by rw[c.o,aB (by omega)]);have d:=hide (show(f:Int)=(gI 2 n:Nat) by rw[a]);have HB:=hide (show(9*(n:Int)+10+7)/8=((gI 2 n:Nat):Int) by rw[a];omega);clear a c;go_enter func71,ntmps71;go_wp2_with fail;go_ret;first|exact⟨by rw[<-d.o];rfl,rfl⟩|exact⟨by rw[<-HB.o];rfl,rfl⟩
 ·have u:((m:Int)==0)=false:=aX.2 (by omega);have x:=j g;clear i j g;have l:v=0\/v=1\/v=2:=by omega
  rcases l with rfl|rfl|rfl
  ·have a:gI 0 n=s:=(by rw[c.o,aA (.inl rfl)]);have d:=hide (show(s:Int)=(gI 0 n:Nat) by rw[a]);have HB:=hide (show 5*(m:Int)+(n:Int)=((gI 0 n:Nat):Int) by rw[a];omega);clear a c;go_enter func71,ntmps71;go_wp2_with fail;go_ret;first|exact⟨by rw[<-d.o];rfl,rfl⟩|exact⟨by rw[<-HB.o];rfl,rfl⟩
  ·have a:gI 1 n=f:=(by rw[c.o,aB (by omega)]);have d:=hide (show(f:Int)=(gI 1 n:Nat) by rw[a]);have HB:=hide (show(9*(n:Int)+10+7)/8=((gI 1 n:Nat):Int) by rw[a];omega);clear a c;go_enter func71,ntmps71;go_wp2_with fail;go_ret;first|exact⟨by rw[<-d.o];rfl,rfl⟩|exact⟨by rw[<-HB.o];rfl,rfl⟩
  ·by_cases k:s<f
   ·have e:(s:Int)<(f:Int):=(by omega);have a:gI 2 n=s:=(by rw[c.o,aA (.inr ⟨rfl,k⟩)]);have d:=hide (show(s:Int)=(gI 2 n:Nat) by rw[a]);have HB:=hide (show 5*(m:Int)+(n:Int)=((gI 2 n:Nat):Int) by rw[a];omega);clear a c;go_enter func71,ntmps71;go_wp2_with fail;go_ret;first|exact⟨by rw[<-d.o];rfl,rfl⟩|exact⟨by rw[<-HB.o];rfl,rfl⟩
   ·have e:¬(s:Int)<(f:Int):=(by omega);have a:gI 2 n=f:=(by rw[c.o,aB (by omega)]);have d:=hide (show(f:Int)=(gI 2 n:Nat) by rw[a]);have HB:=hide (show(9*(n:Int)+10+7)/8=((gI 2 n:Nat):Int) by rw[a];omega);clear a c;go_enter func71,ntmps71;go_wp2_with fail;go_ret;first|exact⟨by rw[<-d.o];rfl,rfl⟩|exact⟨by rw[<-HB.o];rfl,rfl⟩
def y7 (k:Nat):Nat:=if k=1 then 6 else if k=2 then 18 else 0
def Lr (k:Nat)(w:aH)(hk:k<=2):Calls prog 72 #[V k] w fun r w'=>r= .returned (V (y7 k:Nat))/\w'=w:=by
 have a:k=0\/k=1\/k=2:=by omega
 rcases a with rfl|rfl|rfl
 ·go_enter func72,ntmps72;go_wp2_with fail;go_ret;exact⟨rfl,rfl⟩
 ·go_enter func72,ntmps72;go_wp2_with fail;go_ret;exact⟨rfl,rfl⟩
 ·go_enter func72,ntmps72;go_wp2_with fail;go_ret;exact⟨rfl,rfl⟩
def Ab (k:Nat)(P ys:aD):(iM k P ys).length=P.length+y7 k:=by
 unfold iM y7;by_cases a:k=1
 ·rw[aA a,aA a];simp[lK,OO]
 ·rw[aB a,aB a];by_cases c:k=2
  ·rw[aA c,aA c];simp[lJ,ET]
  ·rw[aB c,aB c];rfl
def Sd (k v:Nat)(b:bY)(bits:List Bool)(P:aD)(hk:k<=2)(A:b.size<=1048576)(t:J9 v (bytesOf b) bits)(u:bQ bits P)(l:P.length=(bits.length+7)/8)(w:aH):Calls prog 67 #[V k, .string (strOf (iM k P (bytesOf b))),V b.size] w fun r w'=>∃x,r= .returned (.agg #[V ((0:Nat):Int),x,V ((iM k P (bytesOf b)).length:Nat), .string ⟨#[]⟩])/\w'.ownsRow w.heap.size 5 1 x b.size (jR (bytesOf b))/\O w w':=by
 have z:=Pf t (by rw[bytesOf_length];omega);have m:=Sv t (fun y s=>pV b y s) u l;have g:iR P:=fun y s=>by
  obtain⟨i,hi,rfl⟩:=List.getElem_of_mem s;have:=u.byte i;rw[bV hi]at this;exact this
 have d:=MP k P (bytesOf b) g;have C:=RN k P (bytesOf b);have c:(strOf (iM k P (bytesOf b))).size<=140737488351232:=by rw[qW];omega
 have a:=xC (iM k P (bytesOf b)) d;have o:=Wn b.size A;have p:(bytesOf b).length<=b.size:=by rw[bytesOf_length];exact aS _
 have l:k=1\/k=2\/k=0:=by omega
 rcases l with rfl|rfl|rfl
 ·have e:iM 1 P (bytesOf b)=lK P (bytesOf b):=rfl;rw[e]at c a d|-
  have j:=(Yz (X:=[]) (most:=b.size) m (by rw[bG];exact d)).1 p;rw[bG]at j;have f:=Ee 0 (b.size:Int) _ (bytesOf b) _ w sM c (by rw[a,o];exact j) (fun y=>absurd rfl y);rw[bytesOf_length]at f;exact f
 ·have e:iM 2 P (bytesOf b)=lJ P (bytesOf b):=rfl;rw[e]at c a d|-
  have j:=(Ue (X:=[]) (most:=b.size) m (by rw[bG];exact d) (by rw[bytesOf_length];omega)).1 p;rw[bG]at j;have f:=Hu 0 (b.size:Int) _ (bytesOf b) _ [] w sM c (by rw[a,o];exact j) (fun y=>absurd rfl y);rw[bytesOf_length]at f;exact f
 ·have e:iM 0 P (bytesOf b)=P:=rfl;rw[e]at c a d|-
  obtain⟨n,B⟩:=(m [] [] (by simpa using OA g) b.size).1 p;have q:eZ (bytesOf (strOf P)) n (rQ (asked (b.size:Int))) 0 (bytesOf b) (8*P.length):=by rw[a,o];simpa[qJ,rQ]using B
  have:=YO n 0 (b.size:Int) _ (bytesOf b) (8*P.length) w sM c q;rw[show CO 0 0 (8*P.length)=P.length by unfold CO;rw[aA rfl];omega,bytesOf_length]at this;exact this
def GJ {base:Nat}{u:aK}{hs:List Hd}{F:Nat->Prop}{xs:List aK}(K:xZ W base wb ps v hs F)(d:W.ownsRow b1 5 1 u n xs)(c:∀k,u.ownBlock=some k->vb.ownBlock≠some k)(st:Step (KS wb v vb) W W'):W'.ownsRow b1 5 1 u n xs:=
 eX d st (fun k hk=>by
  obtain⟨e,a⟩:=nN d hk
  rintro(x|x|x)
  ·exact c k hk x
  ·rw[x,K.blk]at a
   cases a
  ·exact gM a K.own (by decide) x)
def JE {base r t:Nat}{hs:List Hd}{F:Nat->Prop}{ys:List aK}{A:Array aK}(K:xZ W base wb ps v hs F)(e:W.ownsRow b1 5 1 vb n ys)(h:W.heap[r]? =some (.cells A t (0,0)))(a:t≠5)(c:t≠89)(d:t≠70)(st:Step (KS wb v vb) W W'):W'.heap[r]? =some (.cells A t (0,0)):=
 st.at_ h (by
  rintro(x|x|x)
  ·exact gM h e a x
  ·rw[x,K.blk]at h
   simp only[fH,uK]at h
   exact d h.2.1.symm
  ·exact gM h K.own c x)
def xJ.len {wrap way:Int}{L:aD}{e:Nat}(h:xJ wrap way b L e):L.length<=9000000:=by
 rcases h with⟨_,rfl,_⟩|⟨_,_,rfl,_⟩|⟨_,_,_,rfl,_⟩|⟨_,_,c,_,bits,P,a,_,d,rfl⟩
 ·simp
 ·simp
 ·simp
 ·have f:=Pf a (by rw[bytesOf_length];exact c);have g:=RN wrap.toNat P (bytesOf b);omega
structure Kst (F0:Nat->Prop)(w:aH)(wb:Nat)(ps v0:aK)(W:aH)(v:aK)(hs:List Hd)(F:Nat->Prop):Prop where
 at_:xZ W 4 wb ps v hs F
 fr:∀k,F k->(F0 k/\k<w.heap.size)\/w.heap.size<=k
 mv:∀k,v.ownBlock=some k->v0.ownBlock=some k\/w.heap.size<=k
 st:Step (fun k=>k=wb\/v0.ownBlock=some k) w W
def Kst.keep {d:Nat->Prop}{v0 c:aK}{hs a:List Hd}{F:Nat->Prop}{ys:List aK}(h:Kst d w wb ps v0 W v hs F)(e:W.ownsRow b1 5 1 vb n ys)(f:w.heap.size<=b1)(K':xZ W' 4 wb ps c a (KF W F vb))(mv:∀k,c.ownBlock=some k->v.ownBlock=some k\/W.heap.size<=k)(st:Step (KS wb v vb) W W'):Kst d w wb ps v0 W' c a (KF W F vb):=
 ⟨K',fun k hk=>by
  rcases hk with y|y|y
  ·exact h.fr k y
  ·exact .inr (bB f (e.lt k y).1)
  ·exact .inr (bB h.st.size y),fun k hk=>by
  rcases mv k hk with y|y
  ·exact h.mv k y
  ·exact .inr (bB h.st.size y),h.st.trans' st (fun k hk x=>by
  rcases x with x|x|x
  ·have:=(e.lt k x).1
   omega
  ·exact .inl x
  ·rcases h.mv k x with y|y
   ·exact .inr y
   ·omega)⟩
def Kst.step0 {a:Nat->Prop}{v0:aK}{hs:List Hd}{F:Nat->Prop}(h:Kst a w wb ps v0 W v hs F)(st:O W W'):Kst a w wb ps v0 W' v hs F:=⟨h.at_.step0 st,h.fr,h.mv,h.st.trans (st.mono (fun _ x=>x.elim))⟩
def Uy (wb:Nat)(kind nn wrap way most:Int)(b:bY)(ps v:aK)(hs:List Hd)(F:Nat->Prop)(w:aH)(K:xZ w 4 wb ps v hs F)(hO:bL w)(h4:4<=w.heap.size)(ef:4<=wb)(hb:b.size<=1048576)(hl:hs.length<=24000000000):Calls prog 44 #[E wb,PG kind nn wrap way b most] w fun r w'=>r= .returned (.bool true)/\∃v' a,xZ w' 4 wb ps v' a (KG w F w')/\(hs.length<a.length/\a.length<=hs.length+12)/\bL w'/\(∀k,v'.ownBlock=some k->v.ownBlock=some k\/w.heap.size<=k)/\Step (fun k=>k=wb\/v.ownBlock=some k) w w':=by
 have dm:=ay9;have HK:=hide K.ltF;have HO:=hide hO;clear K hO;unfold PG;go_enter func44,ntmps44;go_wp2_with fail;obtain⟨G,S⟩:=aP w.heap.size;obtain⟨w1,ag⟩:=aP (w.alloc (.cells #[V kind,V nn,V wrap,V way, .string b,V most] 25));have cn:O w w1:=by rw[ag];exact(aU _ _).alloc _
 have ch:w1.heap[G]? =some (.cells #[V kind,V nn,V wrap,V way, .string b,V most] 25 (0,0)):=by rw[ag,S];exact aR _ _
 have dl:w1.heap.size=G+1:=by rw[ag,S];simp
 rw[<-ag,<-S];have cw:=hide S;clear ag S;apply(Ad b w1 (by omega)).mono;rintro r w2 ⟨rfl,D,ba⟩;obtain⟨B,hB⟩:=aP w1.heap.size;rw[<-hB]at D|-
 have t:=ba.at_ ch (fun x=>x);have c2:=aC t 2 _ rfl;have c3:=aC t 3 _ rfl;have c4:=aC t 4 _ rfl;have ds:B<w2.heap.size:=D.lt;have z:=cn.trans ba;have cq:=z.size;have ay:=hide (fun W (hW:O w2 W)=>Xz wrap way b B W (D.step hW (fun x=>x)) (by omega) (HO.o.step (z.trans hW) (fun _ _ x=>x)) (bB h4 (z.trans hW).size));have be:=hide (show B=G+1 by omega);have bt:=hide z;have ac:=hide D;have bn:=hide t;clear cn ba ch t dl hB D z;have dy:(0:Int)<=(b.size:Int):=by omega
 have dx:(b.size:Int)<=(b.size:Int)+8:=by omega
 have S:G<w2.heap.size:=by have:=be.o;omega
 have ck:=ay.o w2.drew ((aU _ _).drew);have bo:=hide ck;clear ck;go_upto_region 2 with fail;go_cut [6,7] (fun p e wc=>∃(pa:Option Addr) (pc:Nat) (L3:aD) (e3:Nat),p= .slice pa L3.length pc/\e=V ((e3:Nat):Int)/\xJ wrap way b L3 e3/\wc.ownsRow w2.heap.size 5 1 (.slice pa L3.length pc) L3.length (jR L3)/\O w2 wc);case first=>
  go_region_held3 (fun w'=>w'.cell? (U G 2)=some (V wrap)/\w'.cell? (U G 3)=some (V way)/\w'.cell? (U G 4)=some (.string b)) (go_keep)
   (first|(go_at_call 26;apply bo.o.mono;rintro r w3 ⟨v3,L3,e3,rfl,ao,C,c⟩;obtain⟨pa,pc,rfl⟩:=mJ C;have k2:=c.cell (p:=(U G 2)) (w:=w2.drew) c2 (fun x=>x);have k3:=c.cell (p:=(U G 3)) (w:=w2.drew) c3 (fun x=>x);have k4:=c.cell (p:=(U G 4)) (w:=w2.drew) c4 (fun x=>x)))
  all_goals go_wp2_with fail
  all_goals go_meet
  all_goals exact⟨pa,pc,L3,e3,rfl,rfl,ao,C,((aU _ _).drew).trans c⟩
 case rest=>
  obtain⟨pa,pc,L,e,rfl,rfl,ao,C,c⟩:=hcut;obtain⟨w3,h⟩:=aP wc;subst h;have d2:=c.cell c2 (fun x=>x);have d3:=c.cell c3 (fun x=>x);have d4:=c.cell c4 (fun x=>x);have eh:=c.size;have bp:=hide (ay.o w3.drew (c.drew));have al:=hide ao;have bl:=hide C;have cx:=hide c;clear ao C c c2 c3 c4 bo;go_upto_region 3 with fail;go_cut [8,9] (fun p f wc=>∃(qa:Option Addr) (qc:Nat),p= .slice qa L.length qc/\f=V ((e:Nat):Int)/\wc.ownsRow w3.heap.size 5 1 (.slice qa L.length qc) L.length (jR L)/\O w3 wc);case first=>
   go_region_held3 (fun w'=>w'.cell? (U G 2)=some (V wrap)/\w'.cell? (U G 3)=some (V way)/\w'.cell? (U G 4)=some (.string b)) (go_keep)
    (first|(go_at_call 26;apply bp.o.mono;rintro r w4 ⟨v4,L4,e4,rfl,df,j,d⟩;obtain⟨rfl,rfl⟩:=df.one al.o;obtain⟨qa,qc,rfl⟩:=mJ j;have k2:=d.cell (p:=(U G 2)) (w:=w3.drew) d2 (fun x=>x);have k3:=d.cell (p:=(U G 3)) (w:=w3.drew) d3 (fun x=>x);have k4:=d.cell (p:=(U G 4)) (w:=w3.drew) d4 (fun x=>x)))
   all_goals go_wp2_with fail
   all_goals go_meet
   all_goals exact⟨qa,qc,rfl,rfl,j,((aU _ _).drew).trans d⟩
  case rest=>
   obtain⟨qa,qc,rfl,rfl,j,d⟩:=hcut;obtain⟨w4,h⟩:=aP wc;subst h;have ae:=cx.o.trans d;have f2:=d.cell d2 (fun x=>x);have f3:=d.cell d3 (fun x=>x);have f4:=d.cell d4 (fun x=>x);have o3:=eX bl.o d (fun _ _ x=>x);have ei:=d.size;have bv:=hide (fun W (hW:O w4 W)=>TH B b W (ac.o.step (ae.trans hW) (fun x=>x)) (by omega));have ax:=bv.o w4 (aU _ _);have au:=hide ax;have bm:=hide j;have bq:=hide o3;have bu:=hide ae;have aa:=hide (fun(W:aH) (hW:O w4 W)=>aQ (qO (eX o3 hW (fun _ _ x=>x))) (qO (eX j hW (fun _ _ x=>x))));clear ae j d o3 d2 d3 d4 ax bp;go_wp2_with (first
    |(go_at_call 68;apply au.o.mono;rintro r w5 ⟨rfl,bb⟩;obtain⟨cy,cz⟩:=aa.o w5 bb;have an:=hide bb;clear bb))
   have N:=bu.o.trans an.o;have I:=bt.o.trans N;have ej:=an.o.size;have db:b.size+8<=maxLen:=(by unfold maxLen;omega);have dt:w.heap.size+1=B:=(by rw[be.o,cw.o]);obtain⟨ys,ob⟩:=SA (base:=w.heap.size) (ac.o.step N (fun x=>x)) (by omega) db;have K5:Kst F w wb ps v w5 v hs (fun k=>F k/\k<w.heap.size):=⟨HK.o.step0 I,fun k hk=> .inl hk,fun k hk=> .inl hk,I.mono (fun _ x=>x.elim)⟩
   have p5:=eX bq.o an.o (fun _ _ x=>x);have a5:=eX bm.o an.o (fun _ _ x=>x);have r5:=N.at_ bn.o (fun x=>x);have cq:=bt.o.size;have g3:∀k,(Value.slice pa L.length pc).ownBlock=some k->w2.heap.size<=k/\k<w3.heap.size:=fun k hk=>bl.o.lt k hk;have g4:∀k,(Value.slice qa L.length qc).ownBlock=some k->w3.heap.size<=k/\k<w4.heap.size:=fun k hk=>bm.o.lt k hk;have ab:=hide (zM 4 wb (b.size+8) ps v _ hs _ ys w5 K5.at_ (fun k hk x=>by have:=sF hk;omega) (bH ob h4) (by have:=I.size;omega) (by omega) (by omega));have bz:=hide (aQ K5 (aQ ob (aQ p5 (aQ a5 r5))));have aj:=hide g3;have ak:=hide g4;clear N I ob K5 p5 a5 r5 g3 g4 au bv aa bq ac bn cy cz f2 f3 f4 ay;apply ab.o.mono;rintro r w6 ⟨rfl,v6,dj,K6,dg,cr,Y⟩;obtain⟨K5,ob,p5,a5,r5⟩:=bz.o;have J6:=K5.keep ob (aS _) K6 cr Y;have p6:=GJ K5.at_ p5 (fun k hk x=>by have:=sF x;have:=(aj.o k hk).1;omega) Y;have a6:=GJ K5.at_ a5 (fun k hk x=>by have:=sF x;have:=(ak.o k hk).1;omega) Y;have r6:=JE K5.at_ ob r5 (by decide) (by decide) (by decide) Y;have ek:=Y.size;have dn:=K5.st.size;have aq:=hide (zM 4 wb L.length ps v6 _ dj _ _ w6 J6.at_ (fun k hk x=>by
    have:=ak.o k hk;rcases x with x|x|x
    ·omega
    ·have:=sF x;omega
    ·omega) (bH a6 (by omega)) (by omega) (by have:=al.o.len;omega) (by omega))
   have ca:=hide (aQ J6 (aQ p6 (aQ a6 r6)));clear K5 ob p5 a5 r5 J6 p6 a6 r6 K6 cr Y ab bz;go_wp2_with fail;apply aq.o.mono;rintro r w7 ⟨rfl,v7,co,K7,dh,cs,ah⟩;obtain⟨J6,p6,a6,r6⟩:=ca.o;have J7:=J6.keep a6 (by omega) K7 cs ah;have p7:=GJ J6.at_ p6 (fun k hk x=>by have:=aj.o k hk;have:=ak.o k x;omega) ah;have r7:=JE J6.at_ a6 r6 (by decide) (by decide) (by decide) ah;have el:=ah.size;have cj:∀k,v.ownBlock=some k->4<=k:=fun k hk=>(HK.o.own.lt k hk).1;have aw:∀k,(Value.slice pa L.length pc).ownBlock=some k->¬(KF w6 (KF w5 (fun k=>F k/\k<w.heap.size) (.slice (some (U B 0)) (b.size+8) (b.size+8))) (.slice qa L.length qc)) k:=fun k hk x=>by
    have:=aj.o k hk;rcases x with(x|x|x)|x|x
    ·omega
    ·have:=sF x;omega
    ·omega
    ·have:=ak.o k x;omega
    ·omega
   have av:∀(W:aH) (v':aK) (a:List Hd) (F':Nat->Prop),Kst F w wb ps v W v' a F'->(hs.length<a.length/\a.length<=hs.length+12)->∃v' a,xZ W 4 wb ps v' a (KG w F W)/\(hs.length<a.length/\a.length<=hs.length+12)/\bL W/\(∀k,v'.ownBlock=some k->v.ownBlock=some k\/w.heap.size<=k)/\Step (fun k=>k=wb\/v.ownBlock=some k) w W:=fun W v' a F' J hl=>
    ⟨v',a,J.at_.kg J.fr,hl,HO.o.step J.st (fun k hk x=>by
     rcases x with x|x
     ·omega
     ·have:=cj k x;omega),J.mv,J.st⟩
   have m:=hide av;have bh:=hide aw;have b2:=aC r7 2 _ rfl;have b3:=aC r7 3 _ rfl;have b4:=aC r7 4 _ rfl;have eb:=aO r7;have ea:co.length=hs.length+8:=(by omega);have R:=hide J7;have am:=hide p7;have br:=hide r7;clear K7 cs ah J6 p6 a6 r6 J7 p7 r7 aq ca av aw cj dh dg;rcases al.o with⟨k1,hL,he⟩|⟨k1,k2,hL,he⟩|⟨k1,k2,k3,hL,he⟩|⟨k1,k2,k3,he,bits,P,k4,k5,k6,hL⟩
   ·subst he;have ad:L.length=0:=(by rw[hL];rfl);rw[ad];clear hL ad;by_cases kn:wrap<0
    ·clear k1;go_wp2_with fail;go_ret;exact⟨rfl,m.o _ _ _ _ R.o (by omega)⟩
    ·have kp:wrap>2:=(by omega);clear k1;go_wp2_with fail;go_ret;exact⟨rfl,m.o _ _ _ _ R.o (by omega)⟩
   ·subst he;have ad:L.length=0:=(by rw[hL];rfl);rw[ad];clear hL ad;have k3:¬wrap<0:=(by omega);have k4:¬wrap>2:=(by omega);by_cases kn:way<0
    ·clear k1 k2;go_wp2_with fail;go_ret;exact⟨rfl,m.o _ _ _ _ R.o (by omega)⟩
    ·have kp:way>2:=(by omega);clear k1 k2;go_wp2_with fail;go_ret;exact⟨rfl,m.o _ _ _ _ R.o (by omega)⟩
   ·omega
   ·subst he;obtain⟨k,rfl⟩:∃k:Nat,wrap=(k:Int):=⟨wrap.toNat,by omega⟩
    obtain⟨y,rfl⟩:∃y:Nat,way=(y:Int):=⟨way.toNat,by omega⟩
    have ce:k<=2:=(by omega);have dk:y<=2:=(by omega);rw[show((k:Int)).toNat=k by omega]at hL;rw[show((y:Int)).toNat=y by omega]at k4;have e1:¬(k:Int)<0:=(by omega);have e2:¬(k:Int)>2:=(by omega);have e3:¬(y:Int)<0:=(by omega);have e4:¬(y:Int)>2:=(by omega);have e5:¬(b.size:Int)>1048576:=(by omega);have az:=Sz k4;have bs:=hide (fun W=>Sd k y b bits P ce k3 k4 k5 k6 W);have cf:L.length=(bits.length+7)/8+y7 k:=(by rw[hL,<-k6];exact Ab k P (bytesOf b));rw[bytesOf_length]at az;have bf:=hide (aQ hL cf);have bg:=hide az;have aa:=hide (fun(W:aH) (hW:O w7 W)=>qO (eX am.o hW (fun _ _ x=>x)));have cv:=qO am.o;have da:=aa.o w7.drew ((aU _ _).drew)
    have cm:∀W:aH,Calls prog 67 #[V (k:Nat), .string (strOf L),V b.size] W
      (fun r w'=>∃v',r= .returned (.agg #[V ((0:Nat):Int),v',V L.length, .string ⟨#[]⟩])/\w'.ownsRow W.heap.size 5 1 v' b.size (jR (bytesOf b))/\O W w'):=fun W=>by
     have h9:=bs.o W;rw[<-hL]at h9;exact h9
    have HU:=hide cm;clear cm hL cf az k1 k2 k4 k5 k6 bs;have bw:=hide (HU.o w7);go_upto_region 15 with(first
     |(go_at_call 67;apply bw.o.mono;rintro r w8 ⟨v8,rfl,i,X⟩;obtain⟨xa,xc,rfl⟩:=mJ i;have cb:=hide (aQ i X);clear i X))
    obtain⟨i,X⟩:=cb.o;obtain⟨w9,ap⟩:=aP (w8.alloc (.cells #[V 0, .slice xa b.size xc,V L.length, .string ⟨#[]⟩] 45));have af:O w8 w9:=(by rw[ap];exact(aU _ _).alloc _);have H:w9.heap[w8.heap.size]? =some (.cells #[V 0, .slice xa b.size xc,V L.length, .string ⟨#[]⟩] 45 (0,0)):=(by rw[ap];exact aR _ _);rw[<-ap];obtain⟨T,hT⟩:=aP w8.heap.size;rw[<-hT]at H|-
    have g:=X.trans af;have r9:=g.at_ br.o (fun x=>x);have l2:=aC r9 2 _ rfl;have l3:=aC r9 3 _ rfl;have l4:=aC r9 4 _ rfl;have o9:=eX i af (fun _ _ x=>x);have gq:∀k,(Value.slice xa b.size xc).ownBlock=some k->w7.heap.size<=k:=fun k hk=>(i.lt k hk).1;have ec:=aO r9;have em:=g.size;have cc:=hide (aQ g (aQ H (aQ r9 o9)));have cu:=hide gq;have dw:=aO H;obtain⟨M,hM⟩:=aP (gI y b.size);obtain⟨q,hV⟩:=aP (y7 k);have cg:∀W:aH,Calls prog 71 #[V y,V b.size] W fun r w'=>r= .returned (V (M:Nat))/\w'=W:=fun W=>by rw[hM];exact ab2 y b.size W dk k3
    have cp:∀W:aH,Calls prog 72 #[V (k:Nat)] W fun r w'=>r= .returned (V q)/\w'=W:=fun W=>by rw[hV];exact Lr k W ce
    have bj:=hide cg;have bx:=hide cp;have dd:M<=100000000:=(by rw[hM];unfold gI tF yP DT;split<;>(try split)<;>omega);have de:q<=18:=(by rw[hV];unfold y7;split<;>(try split)<;>omega);have bk:=hide (aQ hM hV);clear cg cp i X ap af H hT g r9 o9 gq hM hV cb HU bw b2 b3 b4 cv da aa;go_cut [13] (fun l wd=>l=V ((M+q:Nat):Int)/\O w9 wd);case first=>
     have eo:IntKind.i64.wrap ((M:Int)+(q:Int))=((M+q:Nat):Int):=(by rw[dK];omega);go_quiet (first
      |(go_at_call 71;exact P9 (bj.o _))
      |(go_at_call 72;exact P9 (bx.o _)))
     go_wp2_with fail;go_meet;exact⟨by first|rfl|go_num,(aU _ _).drewN _⟩
    case rest=>
     obtain⟨rfl,A⟩:=hcut;obtain⟨wd,h⟩:=aP wc;subst h;obtain⟨g,H,r9,o9⟩:=cc.o;have Q:=g.trans A;have Jd:=R.o.step0 Q;have pd:=eX am.o Q (fun _ _ x=>x);have qd:=A.at_ H (fun x=>x);have rd:=A.at_ r9 (fun x=>x);have od:=eX o9 A (fun _ _ x=>x);have en:=Q.size;have dp:=Jd.st.size;have ab:=hide (zM 4 wb L.length ps v7 _ co _ _ wd Jd.at_ bh.o (bH pd (by omega)) (by omega) (by have:=al.o.len;omega) (by omega));have cd:=hide (aQ Jd (aQ pd (aQ qd (aQ rd od))));have u:L.length=M+q\/(L.length<M+q/\0<y):=by
      obtain⟨h1,h2⟩:=bk.o;have h3:=bg.o;have h5:=bf.o.2;rw[<-h2]at h5;rw[<-h1]at h3;omega
     have ar:=hide u;clear g H r9 o9 Q Jd pd qd rd od A cc R am br u l2 l3 l4;rename_i K9 dc;refine dc _ _ ?_;go_wp2_with fail;apply ab.o.mono;rintro r we ⟨rfl,v8,X,K8,dz,ct,ai⟩;obtain⟨Jd,pd,qd,rd,od⟩:=cd.o;have Je:=Jd.keep pd (by omega) K8 ct ai;have qe:=JE Jd.at_ pd qd (by decide) (by decide) (by decide) ai;have re:=JE Jd.at_ pd rd (by decide) (by decide) (by decide) ai;have oe:=GJ Jd.at_ od (fun k hk x=>by have:=cu.o k hk;have:=aj.o k x;omega) ai;have HF:=hide (m.o _ _ _ _ Je (by omega));have m0:=aC qe 0 _ rfl;have m1:=aC qe 1 _ rfl;have m2:=aC qe 2 _ rfl;have m3:=aC qe 3 _ rfl;have n3:=aC re 3 _ rfl;have n4:=aC re 4 _ rfl;have dv:=aO qe;have du:=aO re;have bc:we.ownsRow w7.heap.size 5 1 (.slice xa b.size xc) (bytesOf b).length (jR (bytesOf b)):=(by rw[bytesOf_length];exact oe);have dq:=GR (s:=b) (W:=we) bc (fun _ _=>rfl);have dr:=GR (s:=b) (W:=we.drew) bc (fun _ _=>rfl);clear Jd pd qd rd od Je qe re oe bc K8 ct ai ab cd;have u:=ar.o;obtain⟨Z,hZ⟩:=aP (M+q);obtain⟨n,hn⟩:=aP L.length;rw[<-hZ,<-hn]at u;rw[<-hn]at m2;rw[<-hZ,<-hn];clear hZ hn ar dd de bj bx bk bg bf;rcases u with hr|⟨hr,cl⟩
     ·subst hr;go_wp2_with fail;go_ret;exact⟨rfl,HF.o⟩
     ·have ed:((n:Int)==(Z:Int))=false:=aX.2 (by omega);have ee:(n:Int)<(Z:Int):=(by omega);have eg:(y:Int)>0:=(by omega);have HY:=hide cl;clear hr cl;go_wp2_with fail;go_ret;refine⟨?_,HF.o⟩;show Ending.returned (.bool (decide (0<y)))=_;rw[eU HY.o]
end Go.Proofs.YtbpahojchgpdnaaGreatDoor
