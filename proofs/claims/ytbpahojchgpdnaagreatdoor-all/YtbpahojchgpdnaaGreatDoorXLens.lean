import Derived.Test.YtbpahojchgpdnaaGreatDoorRefer
set_option maxRecDepth 20000
set_option maxHeartbeats 4000000
set_option linter.all false
namespace Go.Proofs.YtbpahojchgpdnaaGreatDoor
open Go.RowKit Go.dM Go.Maps Go.Proofs.Tryz
variable {w:aH} {C lb x:Nat} {lv v:aK} {row:aD}
def IB (B:aD)(q c b l:Nat)(e:265<=c)(f:c<=284)(a:(c-261)/4=b)(d:(4+(c-265)%4)*2^b+3=l):eF B q c=if q+b<=8*B.length then .ok (l+aG B q b) (q+b)else .miss:=by unfold eF;rw[aB (by omega),aB (by omega),aB (by omega),a,d]
def UL (f g off cap z q c:Nat)(B:aD)(w:aH)(s:w.heap[f]? =some (.cells #[.slice (bE g off B.length) B.length cap,V q,V z] 91 (0,0)))(y:ay5 w g off B)(r:g≠f)(I:q<=8*B.length)(J:257<=c)(F:c<100000):Calls prog 201 #[E f,V c] w fun e w'=>RP (eF B q c) nat (nat 0) f w e w':=by
 have i:=hide (lV.refl s);obtain⟨res,d⟩:=aP (eF B q c);rw[<-d];by_cases u:285<c
 ·have t:res= .no 9:=by rw[d];unfold eF;rw[aA u]
  go_enter func201,ntmps201;go_wp2_with fail;go_ret2;rw[t];exact⟨rfl,_,i.o⟩
 by_cases A:c<265
 ·have t:res= .ok (c-257+3) q:=by rw[d];unfold eF;rw[aB u,aB (by omega),aA A]
  have G:((c:Int)==285)=false:=aX.2 (by omega);go_enter func201,ntmps201;go_wp2_with fail;go_ret2;rw[t];refine⟨?_,i.o⟩;have e:(c:Int)-257+3=((c-257+3:Nat):Int):=by omega
  rw[e];rfl
 by_cases D:c=285
 ·subst D;have m:=hide (show res= .ok 258 q by rw[d];rfl);go_enter func201,ntmps201;go_wp2_with fail;go_ret2;rw[m.o];exact⟨rfl,i.o⟩
 have p:c=265\/c=266\/c=267\/c=268\/c=269\/c=270\/c=271\/c=272\/c=273\/c=274\/c=275\/c=276\/c=277\/c=278\/c=279\/c=280\/c=281\/c=282\/c=283\/c=284:=by omega
 obtain⟨b,n⟩:∃b,(c-261)/4=b:=⟨_,rfl⟩
 obtain⟨l,k⟩:∃l,(4+(c-265)%4)*2^b+3=l:=⟨_,rfl⟩
 rw[IB B q c b l (by omega) (by omega) n k]at d;have H:=bO B q b;by_cases a:q+b<=8*B.length
 ·rw[aA a]at d;have m:=hide d;rcases p with rfl|rfl|rfl|rfl|rfl|rfl|rfl|rfl|rfl|rfl|rfl|rfl|rfl|rfl|rfl|rfl|rfl|rfl|rfl|rfl;all_goals
   simp only[Nat.reduceDiv,Nat.reduceSub]at n;subst n;simp only[Nat.reduceSub,Nat.reduceMod,Nat.reducePow,Nat.reduceMul,Nat.reduceAdd]at k;subst k;go_enter func201,ntmps201;go_wp2_with fail;apply(dO f g off cap z q _ B w s y r (by omega) a).mono;rintro e w1 ⟨rfl,j⟩;go_wp2_with fail;go_ret2;rw[m.o];exact⟨rfl,j⟩
 ·rw[aB a]at d;have m:=hide d;rcases p with rfl|rfl|rfl|rfl|rfl|rfl|rfl|rfl|rfl|rfl|rfl|rfl|rfl|rfl|rfl|rfl|rfl|rfl|rfl|rfl;all_goals
   simp only[Nat.reduceDiv,Nat.reduceSub]at n;subst n;go_enter func201,ntmps201;go_wp2_with fail;apply(dL f g off cap z q _ B w s y r (by omega) I (Nat.lt_of_not_le a)).mono;rintro e w1 ⟨rfl,j⟩;go_wp2_with fail;rw[m.o];exact⟨rfl,rfl,_,j⟩
def Nc (D:d9)(B:aD)(q s q' b l:Nat)(hs:lC D B q= .ok s q')(d:4<=s)(e:s<=29)(a:s/2-1=b)(c:(2+s%2)*2^b+1=l):iQ D B q=if q'+b<=8*B.length then .ok (l+aG B q' b) (q'+b)else .miss:=by unfold iQ;rw[hs];dsimp only;rw[aB (by omega),aB (by omega),a,c]
def al6 (w:aH)(v:aK)(D:d9)(f:Nat):Prop:=(v= .map none/\D.longest=0)\/∃mb,v= .map (some mb)/\mb≠f/\TabAt w mb D.tab
def ar6 (f g off cap z p:Nat)(x:Option Nat)(D:d9)(B:aD)(w:aH)(d:w.heap[f]? =some (.cells #[.slice (bE g off B.length) B.length cap,V p,V z] 91 (0,0)))(j:ay5 w g off B)(a:g≠f)(k:al6 w (.map x) D f)(l:D.longest<=15)(hp:p<=8*B.length):Calls prog 191 #[.agg #[.map x,V D.longest],E f] w fun e w'=>RP (lC D B p) nat (nat 0) f w e w':=by
 rcases k with⟨i,c⟩|⟨mb,i,b,n⟩
 ·rw[c];have m:lC D B p= .no 9:=by unfold lC;rw[c];rfl
  rw[m];exact Si f x w _ p d
 ·cases i;exact BM f g off cap z p mb D B w d j a n b l hp
set_option maxHeartbeats 8000000 in
def L8 (f g off cap z q:Nat)(x:Option Nat)(D:d9)(B:aD)(w:aH)(Q:w.heap[f]? =some (.cells #[.slice (bE g off B.length) B.length cap,V q,V z] 91 (0,0)))(hS:ay5 w g off B)(u:g≠f)(hT:al6 w (.map x) D f)(hl:D.longest<=15)(hq:q<=8*B.length)(P:∀c s,D.tab c=some s->s<100000):Calls prog 202 #[E f, .agg #[.map x,V D.longest]] w fun e w'=>RP (iQ D B q) nat (nat 0) f w e w':=by
 obtain⟨box,H⟩:=aP (Obj.cells #[.map x,V D.longest] 123);have t:=lV.vU Q box;have L:al6 (w.alloc box) (.map x) D f:=by
  rcases hT with h|⟨mb,r,Y,h3⟩
  ·exact .inl h
  ·exact .inr ⟨mb,r,Y,h3.step t.step Y⟩
 have J:=ar6 f g off cap z q x D B (w.alloc box) (t.feed _ _ _ _ Q) (hS.step t.step u) u L hl hq;rw[H]at J t;have p:=hide J;have n:=hide t;have W:=hide Q;have X:=hide hS;obtain⟨res,i⟩:=aP (iQ D B q);rw[<-i];clear Q J t L hT H;cases hs:lC D B q with
 |no e=>
  have he:=oU hs;subst he;have y:=hide (show res= .no 9 by rw[i];unfold iQ;rw[hs]);have r:=p.o;rw[hs]at r;have G:=hide r;clear r i hs p;go_enter func202,ntmps202;go_wp2_with fail;apply G.o.mono;rintro e w1 ⟨rfl,F,d⟩;have a:=hide (n.o.trans d);clear d;go_wp2_with fail;go_ret2;rw[y.o];exact⟨rfl,_,a.o⟩
 |miss=>
  have y:=hide (show res= .miss by rw[i];unfold iQ;rw[hs]);have r:=p.o;rw[hs]at r;have G:=hide r;clear r i hs p;go_enter func202,ntmps202;go_wp2_with fail;apply G.o.mono;rintro e w1 ⟨rfl,F,d⟩;have a:=hide (n.o.trans d);clear d;go_wp2_with fail;rw[y.o];exact⟨rfl,rfl,_,a.o⟩
 |ok s F=>
  have K:=oV hs;have T:=P _ _ K.2.2.2;have S:F<=8*B.length:=K.2.1;have r:=p.o;rw[hs]at r;have G:=hide r;clear r p K P;by_cases I:30<=s
  ·have y:=hide (show res= .no 9 by rw[i];unfold iQ;rw[hs];dsimp only;rw[aA I]);clear i hs;go_enter func202,ntmps202;go_wp2_with fail;apply G.o.mono;rintro e w1 ⟨rfl,d⟩;have a:=hide (n.o.trans d);clear d;go_wp2_with fail;go_ret2;rw[y.o];exact⟨rfl,_,a.o⟩
  by_cases Z:s<4
  ·have y:=hide (show res= .ok (s+1) F by rw[i];unfold iQ;rw[hs];dsimp only;rw[aB I,aA Z]);clear i hs;go_enter func202,ntmps202;go_wp2_with fail;apply G.o.mono;rintro e w1 ⟨rfl,d⟩;have a:=hide (n.o.trans d);clear d;go_wp2_with fail;go_ret2;rw[y.o];exact⟨rfl,a.o⟩
  have N:s=4\/s=5\/s=6\/s=7\/s=8\/s=9\/s=10\/s=11\/s=12\/s=13\/s=14\/s=15\/s=16\/s=17\/s=18\/s=19\/s=20\/s=21\/s=22\/s=23\/s=24\/s=25\/s=26\/s=27\/s=28\/s=29:=by omega
  clear I Z T;obtain⟨b,M⟩:∃b,s/2-1=b:=⟨_,rfl⟩
  obtain⟨l,A⟩:∃l,(2+s%2)*2^b+1=l:=⟨_,rfl⟩
  rw[Nc D B q s F b l hs (by omega) (by omega) M A]at i;have R:=bO B F b;by_cases j:F+b<=8*B.length
  ·rw[aA j]at i;have y:=hide i;clear i hs;rcases N with rfl|rfl|rfl|rfl|rfl|rfl|rfl|rfl|rfl|rfl|rfl|rfl|rfl|rfl|rfl|rfl|rfl|rfl|rfl|rfl|rfl|rfl|rfl|rfl|rfl|rfl;all_goals
    simp only[Nat.reduceDiv,Nat.reduceSub]at M;subst M;simp only[Nat.reduceMod,Nat.reducePow,Nat.reduceMul,Nat.reduceAdd]at A;subst A;go_enter func202,ntmps202;go_wp2_with fail;apply G.o.mono;rintro e w1 ⟨rfl,d⟩;have k:=n.o.trans d;have m:=hide k;clear d k;go_wp2_with fail;apply(dO f g off cap z F _ B w1 (m.o.feed _ _ _ _ W.o) (X.o.step m.o.step u) u (by omega) j).mono;rintro e w2 ⟨rfl,k⟩;have a:=hide (m.o.trans k);clear k;go_wp2_with fail;go_ret2;rw[y.o];exact⟨rfl,a.o⟩
  ·rw[aB j]at i;have y:=hide i;clear i hs A R;rcases N with rfl|rfl|rfl|rfl|rfl|rfl|rfl|rfl|rfl|rfl|rfl|rfl|rfl|rfl|rfl|rfl|rfl|rfl|rfl|rfl|rfl|rfl|rfl|rfl|rfl|rfl;all_goals
    simp only[Nat.reduceDiv,Nat.reduceSub]at M;subst M;go_enter func202,ntmps202;go_wp2_with fail;apply G.o.mono;rintro e w1 ⟨rfl,d⟩;have k:=n.o.trans d;have m:=hide k;clear d k;go_wp2_with fail;apply(dL f g off cap z F _ B w1 (m.o.feed _ _ _ _ W.o) (X.o.step m.o.step u) u (by omega) S (Nat.lt_of_not_le j)).mono;rintro e w2 ⟨rfl,k⟩;have a:=hide (m.o.trans k);go_wp2_with fail;rw[y.o];exact⟨rfl,rfl,_,a.o⟩
end Go.Proofs.YtbpahojchgpdnaaGreatDoor
namespace Go.Proofs.YtbpahojchgpdnaaGreatDoor
open Go.RowKit Go.dM Go.Proofs.Tryz
variable {w:aH} {C lb x:Nat} {lv v:aK} {row:aD}
def XR (r:R Nat)(b:bY)(s:XS)(y:Nat)(s':XS):Prop:=
 match r with
 | .ok a q=>y=a/\s'={ s with at_:=q }
 | .no e=>y<2^32/\∃a,a<=8*b.size/\s'={ s with err:=e,at_:=a }
 | .miss=>y<2^32/\∃a,a<=8*b.size/\s'={ s with err:=3,at_:=a }
abbrev qN (w:aH)(C:Nat)(L:aD):Prop:=bA w C 234 (2*L.length) (iY (gP L))
def EY (L:aD)(j v:Nat):Nat->Bool
 |0=>false
 |k+1=>EY L j v k||iL (gP L k).1 (gP L k).2 j v
def Vx (L:aD)(j v:Nat):∀k,EY L j v k=true↔∃s,s<k/\iL (gP L s).1 (gP L s).2 j v=true:=by
 intro k;induction k with
 |zero=>simp[EY]
 |succ k ih=>
  rw[EY,Bool.or_eq_true,ih];constructor
  ·rintro(⟨s,b,a⟩|h)
   ·exact⟨s,by omega,a⟩
   ·exact⟨k,by omega,h⟩
  ·rintro⟨s,b,a⟩;by_cases hk:s=k
   ·subst hk;exact .inr a
   ·exact .inl ⟨s,by omega,a⟩
def Xw (L:aD)(a:nx L 15<=65536)(s:Nat)(hs:s<L.length):(gP L s).1<=15/\(gP L s).2<2^40:=by
 unfold gP;split
 ·rename_i h;have:=(Q7 L a s hs h.1 h.2).2;have b:2^(L[s]?.getD 0+1)<=2^16:=gL (by omega) (by omega);exact⟨h.2,by dsimp only;omega⟩
 ·simp
def ER (D:d9)(B:aD)(p j:Nat):R Nat:=match D.tab (bU B p j)with|some y=> .ok y (p+j)|none=>jN D B p (D.longest-j) j
def Nu (L:aD)(B:aD)(p:Nat):ER (aI L) B p 0=lC (aI L) B p:=by unfold ER;rw[show bU B p 0=1 from rfl,Qw L];rfl
def Jg (D:d9)(B:aD)(p j:Nat)(hn:D.tab (bU B p j)=none)(a:j<D.longest):ER D B p j=if p+j<8*B.length then ER D B p (j+1)else .miss:=by
 have e:ER D B p j=jN D B p (D.longest-j) j:=by unfold ER;rw[hn]
 rw[e,show D.longest-j=(D.longest-(j+1))+1 by omega,jN];rfl
def Qx (D:d9)(B:aD)(p j:Nat)(hn:D.tab (bU B p j)=none)(a:D.longest<=j):ER D B p j= .no 9:=by unfold ER;rw[hn,show D.longest-j=0 by omega];rfl
structure QE (w wr:aH)(x base C Z j:Nat)(L:aD)(b:bY)(s s1:XS):Prop where
 H9:j6 wr x base b s1
 wrt:dH x w s.v wr s.v
 codes:qN wr C L
 box:wr.heap[Z]? =some (.cells #[nat j,nat (bU (bytesOf b) s.at_ j-2^j)] 234 (0,0))
def QE.step0 {wr a:aH}{base Z j:Nat}{L:aD}{b:bY}{s c:XS}(h:QE w wr x base C Z j L b s c)(hs:O wr a):QE w a x base C Z j L b s c:=⟨h.H9.step0 hs,h.wrt.step0 hs,h.codes.step hs (fun y=>y),hs.at_ h.box (fun y=>y)⟩
def BF (x base C:Nat)(L:aD)(b:bY)(s:XS)(w:aH)(h:j6 w x base b s)(hC:qN w C L)(ba:Off x s.v C)(hL:∀i:Nat,L[i]?.getD 0<=15)(hn:L.length<=1000)(hf:p9 L=true)(h0:s.err=0):Calls prog 168 #[E x, .slice (some (U C 0)) L.length L.length] w fun r w'=>∃y s',r= .returned (nat y)/\XR (lC (aI L) (bytesOf b) s.at_) b s y s'/\j6 w' x base b s'/\dH x w s.v w' s.v/\(s'.err≠0->y=0):=by
 obtain⟨res,ae⟩:=aP (lC (aI L) (bytesOf b) s.at_);rw[<-ae];have ay:=hide ae;clear ae;go_enter func168,ntmps168;go_wp2_with fail;obtain⟨Z,hZ⟩:=aP w.heap.size;have bp:=hC.lt;have bz:=aO h.blk;have bl:∀k,s.v.ownBlock=some k->k<w.heap.size:=fun k hk=>(h.own.lt k hk).2;have N:O w (w.alloc (.cells #[V 0,V 0] 234)):=(aU _ _).alloc _;have B:QE w (w.alloc (.cells #[V 0,V 0] 234)) x base C Z 0 L b s s:=⟨h.step0 N,(dH.refl x w s.v).step0 N,hC.step N (fun y=>y),by rw[hZ];exact aR _ _⟩
 rw[<-hZ];have aj:¬Z=x:=by omega
 have G:Off x s.v Z:=⟨by omega,fun e=>by have:=bl Z e;omega⟩
 have bb:¬Z=C:=by omega
 have H:w.heap.size<=Z:=by omega
 have T:=Bu L hL hf;have bw:=pY L;generalize w.alloc (.cells #[V 0,V 0] 234)=w1 at*;clear hZ h hC N;have be:=bytesOf_length b
 go_loopg [6] 18 (fun k u wr=>(∃j,j<=(aI L).longest/\17<=j+k/\s.at_+j<=8*b.size/\(∀i,1<=i->i<j->(aI L).tab (bU (bytesOf b) s.at_ i)=none)/\ER (aI L) (bytesOf b) s.at_ j=res/\QE w wr x base C Z j L b s { s with at_:=s.at_+j })\/
  (res= .miss/\∃a,a<=8*b.size/\j6 wr x base b { s with err:=3,at_:=a }/\dH x w s.v wr s.v))
 case atStart=>exact .inl ⟨0,by omega,by omega,B.H9.there,fun i h1 h2=>by omega,by rw[Nu,ay.o],B⟩
 case round=>
  clear B;rcases hrel with⟨j,hj,bt,ak,bk,m,hrel⟩|⟨m,a,ha,hx,hw⟩
  ·obtain⟨_,_,c2,_⟩:=hrel.H9.cell;dsimp only at c2;rw[h0]at c2;obtain⟨v,hv⟩:=aP (bU (bytesOf b) s.at_ j-2^j);have bg:=JD (bytesOf b) s.at_ j;have bn:2^(j+1)<=2^16:=gL (by omega) (by omega);have bx:v<65536:=(by omega);have HV:=hide hv;clear hv;go_wp2_with fail;go_loopw [6,7] (fun sm i wr2=>∃k:Nat,k<=L.length/\i=V (k:Nat)/\sm= .bool (EY L j v k)/\(∀t,t<k->(aI L).tab (bU (bytesOf b) s.at_ j)≠some t)/\O wr wr2) (fun _ i _=>L.length-(intOf i).toNat);case atStart=>exact⟨0,by omega,rfl,rfl,fun t h1=>by omega,aU _ _⟩
   case round=>
    obtain⟨k,hk,rfl,rfl,S,av⟩:=hrel;have d:=hrel.step0 av;by_cases aq:k<L.length
    ·have ac:=Xw L T k aq;have J:=XJ L T hL j (bU (bytesOf b) s.at_ j) k bg aq;rw[<-HV.o]at J;obtain⟨n,M⟩:=aP ((gP L k).1);obtain⟨c,I⟩:=aP ((gP L k).2);have z0:=d.codes.cell (k*2) (by omega);have z1:=d.codes.cell (k*2+1) (by omega);have e0:iY (gP L) (k*2)=nat n:=(by unfold iY;rw[aA (by omega),show k*2/2=k by omega,M]);have e1:iY (gP L) (k*2+1)=nat c:=(by unfold iY;rw[aB (by omega),show(k*2+1)/2=k by omega,I]);rw[e0]at z0;rw[e1]at z1;have aa:EY L j v (k+1)=(EY L j v k||iL n c j v):=(by rw[EY,M,I]);rw[<-M,<-I]at ac J;have bv:(k:Int)<(L.length:Int):=(by omega);have bu:(0:Int)<=(k:Int):=(by omega);obtain⟨b0,b1,_,_⟩:=gB d.box;rw[<-HV.o]at b1;have bc:O wr (wr.alloc (.cells #[nat n,nat c] 234)):=(aU _ _).alloc _;have al:=Kn n c j v (wr.alloc (.cells #[nat n,nat c] 234)) ac.1 ac.2 (by omega) (by omega);have ca:=d.codes.lt;have br:=aO d.box;clear e0 e1 M I d;go_wp2_with fail;apply al.mono;rintro e w3 ⟨rfl,af⟩;have W:=bc.trans af;have bs:w3.cell? (U wr.heap.size 0)=some (nat n):=af.cell (aC (aR wr (.cells #[nat n,nat c] 234)) 0 _ rfl) (fun y=>y);have bq:w3.cell? (U Z 0)=some (nat j):=W.cell b0 (fun y=>y);have P:=hide (av.trans W);clear af;obtain⟨am,F⟩:=aP (EY L j v k);rw[<-F]at aa|-
     clear F;by_cases K:iL n c j v=true/\n=j
     ·obtain⟨ar,bh⟩:=K;rw[ar];have X:=J.1 ⟨ar,bh⟩;have bj:((n:Int)==(j:Int))=true:=dI.2 (by omega);have ap:res= .ok k (s.at_+j):=by
       rw[<-m];unfold ER;rw[X]
      clear X;rcases am with _|_;all_goals
       go_wp2_with fail;go_ret;have h9:=hrel.step0 P.o;exact⟨k,_,rfl,by rw[ap];exact⟨rfl,rfl⟩,h9.H9,h9.wrt,fun h8=>absurd h0 h8⟩
     ·have ab:iL n c j v=false\/(iL n c j v=true/\((n:Int)==(j:Int))=false):=by
       cases hb:iL n c j v with
       |false=>exact .inl rfl
       |true=>exact .inr ⟨rfl,aX.2 (fun e=>K ⟨hb,by omega⟩)⟩
      have au:(aI L).tab (bU (bytesOf b) s.at_ j)≠some k:=fun e=>K (J.2 e);have ax:=hide (show∀t,t<k+1->(aI L).tab (bU (bytesOf b) s.at_ j)≠some t from fun t ht=>by
       by_cases bm:t=k
       ·rw[bm];exact au
       ·exact S t (by omega))
      clear au K;rcases ab with hb|⟨hb,bj⟩
      all_goals
       rw[hb]at aa|-
       rcases am with _|_;all_goals
        go_wp2_with fail;exact⟨⟨k+1,by omega,by go_num,by rw[aa];rfl,ax.o,P.o⟩,by simp[intOf];omega⟩
    ·have:k=L.length:=(by omega);subst this;have g:(aI L).tab (bU (bytesOf b) s.at_ j)=none:=by
      cases ht:(aI L).tab (bU (bytesOf b) s.at_ j)with
      |none=>rfl
      |some t=>exact absurd ht (S t ((l8 L 15 _ t).1 ht).1)
     have D:∀i,1<=i->i<=j->(aI L).tab (bU (bytesOf b) s.at_ i)=none:=fun i h1 h2=>by
      by_cases bf:i=j
      ·rw[bf];exact g
      ·exact bk i h1 (by omega)
     have f:=ac3 L hL hf (bytesOf b) s.at_ j hj D;rw[<-Vx,<-HV.o]at f;have bo:=hide d.H9;obtain⟨am,F⟩:=aP (EY L j v L.length);rw[<-F]at f|-
     clear F;by_cases ad:j<(aI L).longest
     ·have ha:am=true:=f.2 ad;subst ha;have q:=Jg (aI L) (bytesOf b) s.at_ j g ad;rw[m,be]at q;have an:=YL x base b _ wr d.H9;have ag:=hide D;clear D g f;go_wp2_with fail;apply an.mono;rintro e w3 ⟨rfl,l,z⟩;have Q:=d.codes.wrt ba z;have A:=z.step.at_ d.box (fun y=>y.elim G.1 G.2);have Y:=d.wrt.trans z;obtain⟨q0,q1,cb,cc⟩:=gB A;rw[<-HV.o]at q1;by_cases aw:s.at_+j<8*b.size
      ·have eb:p8 b { s with at_:=s.at_+j }=(bK (bytesOf b) (s.at_+j),{ s with at_:=s.at_+j+1 }):=by
        unfold p8;rw[aB (by dsimp only;omega),aA (by dsimp only;omega)]
       rw[eb]at l|-
       have q:=q;rw[aA aw]at q;have ao:=kQ (bytesOf b) (s.at_+j);obtain⟨y,hy⟩:=aP (bK (bytesOf b) (s.at_+j));dsimp only at l|-
       rw[<-hy]at ao|-
       have ai:bU (bytesOf b) s.at_ (j+1)-2^(j+1)=2*v+y:=by
        rw[bU,HV.o,hy,gW];omega
       clear z hy eb;go_wp2_with fail;go_roundg (gk-1);case measure=>omega
       case rel=>
        have hz:Step (·=Z) w3 ((w3.setCell (U Z 0) (V ((j:Int)+1))).setCell (U Z 1) (V (2*(v:Int)+(y:Int)))):=((aU (·=Z) w3).setCell (p:=(U Z 0)) rfl _).setCell (p:=(U Z 1)) rfl _;refine .inl ⟨j+1,by omega,by omega,by omega,fun i h1 h2=>ag.o i h1 (by omega),q.symm,⟨l.step hz (fun e=>aj e.symm) (fun k hk e=>G.2 (e▸hk)),(Y.aZ H _).aZ H _,Q.step hz (fun e=>bb e.symm),?_⟩⟩;rw[ai];have h9:=aV (aV A 0 (V ((j:Int)+1))) 1 (V (2*(v:Int)+(y:Int)));rw[h9];simp[nat]
      ·have eb:p8 b { s with at_:=s.at_+j }=(0,{ s with at_:=s.at_+j,err:=3 }):=by
        unfold p8;rw[aB (by dsimp only;omega),aB (by dsimp only;omega)]
       rw[eb]at l|-
       have q:=q;rw[aB aw]at q;dsimp only at l|-
       clear Q A z eb;go_wp2_with fail;go_roundg (gk-1);case measure=>omega
       case rel=>
        refine .inr ⟨q,s.at_+j,ak,?_,(Y.aZ H _).aZ H _⟩;refine l.step (((aU (·=Z) w3).setCell (p:=(U Z 0)) rfl _).setCell (p:=(U Z 1)) rfl _) (fun e=>aj e.symm) (fun k hk e=>G.2 (e▸hk))
     ·have ha:am=false:=by
       cases h9:am with
       |false=>rfl
       |true=>exact absurd (f.1 h9) ad
      subst ha;have R:=Qx (aI L) (bytesOf b) s.at_ j g (by omega);rw[m]at R;clear D g f;go_wp2_with fail;apply(iK x base 9 b _ wr d.H9).mono;rintro e w3 ⟨rfl,l,z⟩;dsimp only at l z;rw[aA h0]at l;have az:=hide (d.wrt.trans z);clear z;go_wp2_with fail;go_ret;exact⟨0,_,rfl,by rw[R];exact⟨by decide,s.at_+j,ak,rfl⟩,l,az.o,fun _=>rfl⟩
  ·obtain⟨_,_,c2,_⟩:=hx.cell;dsimp only at c2;have ah:=hide m;clear m;go_wp2_with fail;go_ret;exact⟨0,rfl,_,by rw[ah.o];exact⟨by decide,a,ha,rfl⟩,hx,hw,fun _=>rfl⟩
def XK (B:aD)(q e l:Nat):R Nat:=if q+e<=8*B.length then .ok (l+aG B q e) (q+e)else .miss
def Fa (b:bY)(s:XS)(a:s.err=0)(d:s.at_<=8*b.size)(e l:Nat)(c:e<=20)(i:l<=1000000):XR (XK (bytesOf b) s.at_ e l) b s (l+(cB b s e).1) (cB b s e).2:=by
 unfold XK;rw[bytesOf_length];by_cases h:s.at_+e<=8*b.size
 ·rw[aA h,jH b s a e h];exact⟨rfl,rfl⟩
 ·rw[aB h,j3 b s a d e (by omega)];have f:=jM b s e;have g:2^e<=2^20:=gL (by omega) c;refine⟨by omega,8*b.size,aS _,rfl⟩
def Bc (x base c:Nat)(b:bY)(s:XS)(w:aH)(h:j6 w x base b s)(p:s.err=0)(D:257<=c)(t:c<=285):Calls prog 169 #[E x,V c] w fun r w'=>∃y s',r= .returned (nat y)/\XR (eF (bytesOf b) s.at_ c) b s y s'/\j6 w' x base b s'/\dH x w s.v w' s.v:=by
 have A:=h.there;obtain⟨res,a⟩:=aP (eF (bytesOf b) s.at_ c);rw[<-a];by_cases B:c<=264
 ·have z:res= .ok (c-257+3) s.at_:=by rw[a];unfold eF;rw[aB (by omega),aB (by omega),aA (by omega)]
  go_enter func169,ntmps169;go_wp2_with fail;go_ret;have n:(c:Int)-254=((c-257+3:Nat):Int):=by omega
  rw[n];exact⟨c-257+3,s,rfl,by rw[z];exact⟨rfl,rfl⟩,h,dH.refl _ _ _⟩
 by_cases q:c=285
 ·subst q;have m:=hide (show res= .ok 258 s.at_ by rw[a];rfl);go_enter func169,ntmps169;go_wp2_with fail;go_ret;exact⟨258,s,rfl,by rw[m.o];exact⟨rfl,rfl⟩,h,dH.refl _ _ _⟩
 have g:c=265\/c=266\/c=267\/c=268\/c=269\/c=270\/c=271\/c=272\/c=273\/c=274\/c=275\/c=276\/c=277\/c=278\/c=279\/c=280\/c=281\/c=282\/c=283\/c=284:=by omega
 obtain⟨e,f⟩:=aP ((c-261)/4);obtain⟨l,i⟩:=aP ((4+(c-265)%4)*2^e+3);rw[IB (bytesOf b) s.at_ c e l (by omega) (by omega) f.symm i.symm]at a;rcases g with rfl|rfl|rfl|rfl|rfl|rfl|rfl|rfl|rfl|rfl|rfl|rfl|rfl|rfl|rfl|rfl|rfl|rfl|rfl|rfl;all_goals
  simp at f;simp[f]at i;have d:=Fa b s p A e l (by omega) (by omega);unfold XK at d;rw[<-a]at d;have u:=jM b s e;have hn:=gD x base e b s w h (by omega);subst f i;go_enter func169,ntmps169;go_wp2_with fail;apply hn.mono;rintro e w1 ⟨rfl,k,j⟩;go_wp2_with fail;go_ret;refine⟨_,_,?_,d,k,j⟩;rfl
def rD (B:aD)(q s:Nat):R Nat:=if s<4 then .ok (s+1) q else XK B q (s/2-1) ((2+s%2)*2^(s/2-1)+1)
def WE (x base c:Nat)(b:bY)(s:XS)(w:aH)(h:j6 w x base b s)(n:s.err=0)(o:c<30):Calls prog 170 #[E x,V c] w fun r w'=>∃y s',r= .returned (nat y)/\XR (rD (bytesOf b) s.at_ c) b s y s'/\j6 w' x base b s'/\dH x w s.v w' s.v:=by
 have t:=h.there;obtain⟨res,a⟩:=aP (rD (bytesOf b) s.at_ c);rw[<-a];by_cases m:c<4
 ·have q:res= .ok (c+1) s.at_:=by rw[a];unfold rD;rw[aA m]
  go_enter func170,ntmps170;go_wp2_with fail;go_ret;exact⟨c+1,s,rfl,by rw[q];exact⟨rfl,rfl⟩,h,dH.refl _ _ _⟩
 have g:c=4\/c=5\/c=6\/c=7\/c=8\/c=9\/c=10\/c=11\/c=12\/c=13\/c=14\/c=15\/c=16\/c=17\/c=18\/c=19\/c=20\/c=21\/c=22\/c=23\/c=24\/c=25\/c=26\/c=27\/c=28\/c=29:=by omega
 obtain⟨e,f⟩:=aP (c/2-1);obtain⟨l,i⟩:=aP ((2+c%2)*2^e+1);unfold rD at a;rw[aB m,<-f,<-i]at a;rcases g with rfl|rfl|rfl|rfl|rfl|rfl|rfl|rfl|rfl|rfl|rfl|rfl|rfl|rfl|rfl|rfl|rfl|rfl|rfl|rfl|rfl|rfl|rfl|rfl|rfl|rfl;all_goals
  simp at f;simp[f]at i;have d:=Fa b s n t e l (by omega) (by omega);rw[<-a]at d;have p:=jM b s e;have hn:=gD x base e b s w h (by omega);subst f i;go_enter func170,ntmps170;go_wp2_with fail;apply hn.mono;rintro e w1 ⟨rfl,k,j⟩;go_wp2_with fail;go_ret;refine⟨_,_,?_,d,k,j⟩;rfl
def oK (D:d9)(B:aD)(n p:Nat)(row:aD):R (aD):=
 match lC D B p with
 | .no e=> .no e
 | .miss=> .miss
 | .ok s q=>
  if s=16/\row.length=0 then .no 8 else
  match fO B q s row with
  | .no e=> .no e
  | .miss=> .miss
  | .ok lt q'=>if n<row.length+lt.2 then .no 8 else .ok (row++List.replicate lt.2 lt.1) q'
def Lm (D:d9)(B:aD)(n k p:Nat)(row:aD)(h:row.length<n):iC D B n (k+1) p row=match oK D B n p row with| .no e=> .no e| .miss=> .miss| .ok row' q=>iC D B n k q row':=by
 rw[iC,aB (by omega)];unfold oK;cases lC D B p with
 |no e=>rfl
 |miss=>rfl
 |ok s q=>
  dsimp only;by_cases a:s=16/\row.length=0
  ·rw[aA a,aA a]
  ·rw[aB a,aB a];cases fO B q s row with
   |no e=>rfl
   |miss=>rfl
   |ok lt q'=>
    dsimp only;by_cases b:n<row.length+lt.2
    ·rw[aA b,aA b]
    ·rw[aB b,aB b]
structure AJ (w:aH)(lb x C:Nat)(v lv:aK)(row:aD):Prop where
 own:w.ownsRow lb 3 1 lv row.length (TJ row)
 lx:x<lb
 lc:C<lb
 lv_:∀k,v.ownBlock=some k->k<lb
 le:lb<=w.heap.size
 aC5:∀i:Nat,row[i]?.getD 0<=15
 few:row.length<=400
def AJ.slice (h:AJ w lb x C v lv row):∃a c,lv= .slice a row.length c:=by
 obtain⟨_,⟨b,hn⟩|⟨g,cap,_,b,_⟩⟩:=h.own
 ·exact⟨none,0,by rw[b,hn]⟩
 ·exact⟨_,_,b⟩
def AJ.wrt {w':aH}(h:AJ w lb x C v lv row)(a:dH x w v w' v):AJ w' lb x C v lv row:=
 ⟨bX h.own (fun k hk=>a.step.block k (h.own.lt k hk).2 (fun e=>by
  have b:=(h.own.lt k hk).1
  rcases e with e|e
  ·have:=h.lx;omega
  ·have:=h.lv_ k e;omega)),h.lx,h.lc,h.lv_,bB h.le a.step.size,h.aC5,h.few⟩
def ES (r:R (aD))(w:aH)(x base C lb:Nat)(b:bY)(s:XS)(row:aD)(lv':aK)(s':XS)(w':aH):Prop:=
 j6 w' x base b s'/\Step (fun k=>k=x\/s.v.ownBlock=some k\/lb<=k) w w'/\
 match r with
 | .ok row' q=>s'={ s with at_:=q }/\AJ w' lb x C s.v lv' row'
 | .no e=>(∃a,a<=8*b.size/\s'={ s with err:=e,at_:=a })/\AJ w' lb x C s.v lv' row
 | .miss=>(∃a,a<=8*b.size/\s'={ s with err:=3,at_:=a })/\AJ w' lb x C s.v lv' row
def AJ.one {w':aH}{j a g cap:Nat}(h:AJ w lb x C v lv (row++List.replicate j a))(f:a<=15)(k:row.length+j<400)(hs:w.heap.size<=w'.heap.size)(e:w'.ownsRow lb 3 1 (.slice (some (U g 0)) (row.length+j+1) cap) (row.length+j+1) (TJ (row++List.replicate j a)++[nat a])):AJ w' lb x C v (.slice (some (U g 0)) (row.length+j+1) cap) (row++List.replicate (j+1) a):=by
 have d:row++List.replicate (j+1) a=(row++List.replicate j a)++[a]:=by rw[dB,<-OX]
 have e3:(row++List.replicate (j+1) a).length=row.length+j+1:=by simp;omega
 refine⟨?_,h.lx,h.lc,h.lv_,bB h.le hs,?_,by omega⟩
 ·rw[e3,d];simpa[TJ,nat]using e
 ·refine zX row (j+1) a (fun i=> ?_) f;by_cases b:i<row.length
  ·have c:=h.aC5 i;rw[jA b]at c;exact c
  ·rw[fZ (by omega)];simp
def ZG (x base C lb n:Nat)(L row:aD)(b:bY)(s:XS)(lv:aK)(w:aH)(h:j6 w x base b s)(hC:qN w C L)(bn:Off x s.v C)(hL:∀i:Nat,L[i]?.getD 0<=15)(hn:L.length=19)(M:p9 L=true)(h0:s.err=0)(X:AJ w lb x C s.v lv row)(cj:n<=400)(ck:row.length<n):Calls prog 172 #[E x, .slice (some (U C 0)) L.length L.length,lv,V n] w fun r w'=>∃bj s',r= .returned bj/\ES (oK (aI L) (bytesOf b) n s.at_ row) w x base C lb b s row bj s' w':=by
 obtain⟨la,lc,bu⟩:=X.slice;obtain⟨i0,hi,bv,bw,bx⟩:=eD info3;have ak:=hide (BF x base C L b s w h hC bn hL (by omega) M h0);obtain⟨res,av⟩:=aP (oK (aI L) (bytesOf b) n s.at_ row);rw[<-av];subst bu;have aj:=hide X;have ao:=hide av;have bl:=hide (show∀k t,(aI L).tab k=some t->t<19 from fun k t ht=>by have:=((l8 L 15 k t).1 ht).1;omega);clear X av h hC hn;go_enter func172,ntmps172;go_wp2_with fail;apply ak.o.mono;rintro r w1 ⟨y,s1,rfl,ay,P,ah,bh⟩;have A:=aj.o.wrt ah;have I:Step (fun k=>k=x\/s.v.ownBlock=some k\/lb<=k) w w1:=ah.step.mono (fun k hk=>hk.elim .inl (fun e=> .inr (.inl e)));rcases hrs:lC (aI L) (bytesOf b) s.at_ with⟨t,g⟩|e1|_;all_goals rw[hrs]at ay
 case ok=>
  have aw:=oV hrs;have cc:=bl.o _ _ aw.2.2.2;have be:g<=8*b.size:=by have:=aw.2.1;rw[bytesOf_length]at this;exact this
  obtain⟨rfl,rfl⟩:=ay;have c:res=(if y=16/\row.length=0 then .no 8 else match fO (bytesOf b) g y row with| .no e=> .no e| .miss=> .miss| .ok lt q'=>if n<row.length+lt.2 then .no 8 else .ok (row++List.replicate lt.2 lt.1) q'):=by rw[ao.o];unfold oK;rw[hrs]
  obtain⟨_,_,c2,_⟩:=P.cell;dsimp only at c2;rw[h0]at c2;have T:=hide P;have u:=hide I;have d:=hide A;clear P ah I A hrs aw ak aj ao bh;have bp:(y=16/\row.length=0)\/(y=16/\1<=row.length)\/y=17\/y=18\/y<16:=by omega
  rcases bp with⟨rfl,bb⟩|⟨rfl,bs⟩|rfl|rfl|bt
  ·have f:=hide (show res= .no 8 by rw[c,aA ⟨rfl,bb⟩]);obtain rfl:=List.length_eq_zero_iff.1 bb;clear c;go_wp2_with fail;apply(iK x base 8 b { s with at_:=g } w1 T.o).mono;rintro r w9 ⟨rfl,q,N⟩;replace q:j6 w9 x base b { s with at_:=g,err:=if s.err=0 then 8 else s.err }:=q;rw[aA h0]at q;go_wp2_with fail;go_ret;refine⟨_,{ s with at_:=g,err:=8 },rfl,?_⟩;rw[f.o];exact⟨q,u.o.trans (N.step.mono (fun k hk=>hk.elim .inl (fun e=> .inr (.inl e)))),⟨g,be,rfl⟩,d.o.wrt N⟩
  focus
   obtain⟨p,ai⟩:=aP (row[row.length-1]?.getD 0);obtain⟨g9,rfl,ar⟩:∃g9,la=some (U g9 0)/\w1.cell? ⟨g9,row.length-1,none⟩=some (nat p):=by
    have m:=d.o.own;obtain⟨_,⟨hv,hz⟩|⟨g',bz,cd,hv,_⟩⟩:=m
    ·omega
    ·simp only[nK]at hv;refine⟨g',hv.1,?_⟩;have m:=d.o.own;rw[hv.1]at m;rw[m.cellAt (row.length-1) (by omega),ai];simp[bV (show row.length-1<row.length by omega)]
   obtain⟨t9,bg⟩:=aP (row.length-1);rw[<-bg]at ar;have cm:IntKind.i64.wrap ((row.length:Int)-1)=(t9:Int):=(by rw[dK];omega);have cl:(0:Int)<=(t9:Int):=(by omega);have cn:(t9:Int)<(row.length:Int):=(by omega);have cb:((row.length:Int)==0)=false:=aX.2 (by omega);obtain⟨k,Q,hk,ab,hB,Y,J⟩:∃k Q:Nat,k=2/\Q=3/\fO (bytesOf b) g 16 row=(if g+k<=8*(bytesOf b).length then .ok (p,aG (bytesOf b) g k+Q) (g+k)else .miss)/\nat p=nat p/\p<=15:=⟨2,3,rfl,rfl,by rw[ai];rfl,rfl,by rw[ai];exact d.o.aC5 _⟩
   have au:¬(16=16/\row.length=0):=(by omega);clear ai bg
  rotate_left;focus
   obtain⟨k,Q,p,hk,ab,hB,Y,J⟩:∃k Q p:Nat,k=3/\Q=3/\fO (bytesOf b) g 17 row=(if g+k<=8*(bytesOf b).length then .ok (p,aG (bytesOf b) g k+Q) (g+k)else .miss)/\nat p=V 0/\p<=15:=⟨3,3,0,rfl,rfl,rfl,rfl,by omega⟩
   have au:¬(17=16/\row.length=0):=by omega
  rotate_left;focus
   obtain⟨k,Q,p,hk,ab,hB,Y,J⟩:∃k Q p:Nat,k=7/\Q=11/\fO (bytesOf b) g 18 row=(if g+k<=8*(bytesOf b).length then .ok (p,aG (bytesOf b) g k+Q) (g+k)else .miss)/\nat p=V 0/\p<=15:=⟨7,11,0,rfl,rfl,rfl,rfl,by omega⟩
   have au:¬(18=16/\row.length=0):=by omega
  rotate_left 2;iterate 3
   focus
    have e1:=gD x base k b { s with at_:=g } w1 T.o (by omega);have bc:=jM b { s with at_:=g } k;rw[hB,aB au,bytesOf_length]at c;by_cases ax:g+k<=8*b.size;focus
     rw[jH b { s with at_:=g } h0 k ax]at e1 bc;rw[aA ax]at c;dsimp only at c bc e1;generalize aG (bytesOf b) g k=v at*;obtain⟨tm,ag⟩:=aP (v+Q);obtain⟨q2,bf⟩:=aP (g+k);rw[<-ag,<-bf]at c;rw[<-bf]at e1;subst hk ab;have f:=hide c;have R:=hide e1;clear c e1 hB;go_wp2_with fail;apply R.o.mono;rintro r w2 ⟨rfl,H,G⟩;have B:=hide (d.o.wrt G);have S:=hide (u.o.trans (G.step.mono (fun k hk=>hk.elim .inl (fun e=> .inr (.inl e)))));obtain⟨_,_,c3,_⟩:=H.cell;dsimp only at c3;rw[h0]at c3;have aa:=hide H;clear R H G d u T;by_cases W:n<row.length+tm
     ·have bo:(n:Int)<(row.length:Int)+(tm:Int):=(by omega);go_wp2_with fail;apply(iK x base 8 b { s with at_:=q2 } w2 aa.o).mono;rintro r w9 ⟨rfl,q,N⟩;dsimp only at q;rw[aA h0]at q;obtain⟨_,_,c9,_⟩:=q.cell;have z:=hide (show ES res w x base C lb b s row _ _ w9 by
       rw[f.o,aA W];exact⟨q,S.o.trans (N.step.mono (fun k hk=>hk.elim .inl (fun e=> .inr (.inl e)))),⟨q2,aa.o.there,rfl⟩,B.o.wrt N⟩)
      clear q N;go_wp2_with fail;go_loopw [2,15] (fun l i wr=>i=V 0/\∃K,K.err≠0/\ES res w x base C lb b s row l K wr) (fun _ _ _=>0);case atStart=>exact⟨rfl,_,by first|exact he|simp,z.o⟩
      case round=>
       obtain⟨rfl,K,h9,M⟩:=hrel;have hb:((K.err:Int)==0)=false:=aX.2 (by omega);obtain⟨_,_,c9,_⟩:=M.1.cell;have z:=hide M;clear M;go_wp2_with fail;go_ret;first|exact⟨_,_,rfl,z.o⟩|exact⟨_,rfl,_,z.o⟩
    rotate_left
    ·rw[j3 b { s with at_:=g } h0 be k (by dsimp only;omega)]at e1;rw[aB ax]at c;generalize(cB b { s with at_:=g } k).1=v at*;subst hk ab;have f:=hide c;have R:=hide e1;clear c e1 hB;go_wp2_with fail;apply R.o.mono;rintro r w2 ⟨rfl,H,G⟩;obtain⟨_,_,c3,_⟩:=H.cell;have z:=hide (show ES res w x base C lb b s row _ _ w2 by
      rw[f.o];exact⟨H,u.o.trans (G.step.mono (fun k hk=>hk.elim .inl (fun e=> .inr (.inl e)))),⟨_,aS _,rfl⟩,d.o.wrt G⟩)
     clear H G R;go_wp2_with fail;go_loopw [2,15] (fun l i wr=>i=V 0/\∃K,K.err≠0/\ES res w x base C lb b s row l K wr) (fun _ _ _=>0);case atStart=>exact⟨rfl,_,by first|exact he|simp,z.o⟩
     case round=>
      obtain⟨rfl,K,h9,M⟩:=hrel;have hb:((K.err:Int)==0)=false:=aX.2 (by omega);obtain⟨_,_,c9,_⟩:=M.1.cell;have z:=hide M;clear M;go_wp2_with fail;go_ret;first|exact⟨_,_,rfl,z.o⟩|exact⟨_,rfl,_,z.o⟩
   rotate_left
  focus
   have ce:((y:Int)==16)=false:=aX.2 (by omega);have cf:((y:Int)==17)=false:=aX.2 (by omega);have cg:((y:Int)==18)=false:=aX.2 (by omega);obtain⟨tm,ag⟩:=aP 1;obtain⟨p,rfl⟩:=aP y;obtain⟨q2,rfl⟩:=aP g;obtain⟨w2,rfl⟩:=aP w1;rw[aB (by omega)]at c;unfold fO at c;rw[aA bt]at c;dsimp only at c;rw[<-ag]at c;have f:=hide c;have Y:nat p=nat p:=rfl;have J:p<=15:=(by omega);have aa:=T;have B:=d;have S:=u;have W:¬n<row.length+tm:=(by omega);clear c T d u
  all_goals
    have bo:¬(n:Int)<(row.length:Int)+(tm:Int):=(by omega);go_wp2_with fail;go_loopw [2,15] (fun l i wr=>∃j:Nat,j<=tm/\i=V j/\AJ wr lb x C s.v l (row++List.replicate j p)/\j6 wr x base b { s with at_:=q2 }/\Step (fun k=>k=x\/s.v.ownBlock=some k\/lb<=k) w wr) (fun _ i _=>tm-(intOf i).toNat);case atStart=>exact⟨0,by omega,rfl,by simpa using B.o,aa.o,S.o⟩
    case round=>
     obtain⟨j,hj,rfl,F,Z,af⟩:=hrel;obtain⟨ja,jc,ba⟩:=F.slice;obtain⟨_,_,c9,_⟩:=Z.cell;dsimp only at c9;rw[h0]at c9;have aq:(row++List.replicate j p).length=row.length+j:=(by rw[aN,dQ]);rw[aq]at ba;subst ba;by_cases ch:j<tm
     ·have m:=F.own;rw[aq]at m;have az:=hide m;have ap:=hide F;have bm:=hide Z;have bk:=hide af;have br:=F.le;clear m F Z af aq;go_wp2_with (at_builtin;refine fQ _ rfl _ _ 57 rfl lb 3 i0 (V 0) 1 8 underlying57 hi bv bw bx rfl (by decide) _ (row.length+j) (TJ (row++List.replicate j p)) rfl (by exact az.o.alloc _) (U wr.heap.size 0) 1 1 [nat p] rfl rfl ?_ ?_ (by decide) ?_ ?_ ?_ ?_);any_goals first
       |(unfold maxLen;omega)
       |omega
       |exact bB br (by simp)
       |rfl
      intro g9 ca w9 D al bq;have ae:Step (fun k=>lb<=k) wr w9:=((aU _ wr).alloc _).grown al (fun k hk=> .inl (az.o.lt k hk).1);have am:=ap.o.one J (by omega) ae.size (by
       simp only[TJ,sS,List.map_replicate,dB];first|exact D|(rw[show V (p:Int)=V 0 from Y,Y];exact D))
      have an:=bm.o.step ae (by have:=ap.o.lx;omega) (fun k hk=>by have:=ap.o.lv_ k hk;omega);have z:=hide (aQ am (aQ an (bk.o.trans (ae.mono (fun k hk=> .inr (.inr hk))))));clear D al bq ae am an;go_wp2_with fail;exact⟨⟨j+1,by omega,by go_num,z.o⟩,by simp[intOf];omega⟩
     ·obtain rfl:j=tm:=by omega
      have z:=hide (show ES res w x base C lb b s row _ _ wr by
       rw[f.o,aB W];exact⟨Z,af,rfl,F⟩)
      subst ag;clear F Z af;go_wp2_with fail;go_ret;first|exact⟨_,_,rfl,z.o⟩|exact⟨_,rfl,_,z.o⟩
 all_goals
  obtain⟨_,a,ha,ac⟩:=ay;have he:s1.err≠0:=by first|(rw[ac,oU hrs];simp)|(rw[ac];simp)
  have hy:=bh he;subst hy;have z:=hide (show ES res w x base C lb b s row (.slice la row.length lc) s1 w1 by
   rw[ao.o];unfold oK;rw[hrs];exact⟨P,I,⟨a,ha,ac⟩,A⟩)
  obtain⟨_,_,c2,_⟩:=P.cell;have hb:((s1.err:Int)==0)=false:=aX.2 (by omega);clear P ah I A hrs ac;go_wp2_with fail;go_loopw [2,15] (fun l i wr=>i=V 0/\∃K,K.err≠0/\ES res w x base C lb b s row l K wr) (fun _ _ _=>0);case atStart=>exact⟨rfl,_,by first|exact he|simp,z.o⟩
  case round=>
   obtain⟨rfl,K,h9,M⟩:=hrel;have hb:((K.err:Int)==0)=false:=aX.2 (by omega);obtain⟨_,_,c9,_⟩:=M.1.cell;have z:=hide M;clear M;go_wp2_with fail;go_ret;first|exact⟨_,_,rfl,z.o⟩|exact⟨_,rfl,_,z.o⟩
end Go.Proofs.YtbpahojchgpdnaaGreatDoor
