import Derived.Test.YtbpahojchgpdnaaGreatDoorRefer
set_option maxRecDepth 20000
set_option maxHeartbeats 4000000
set_option linter.all false
namespace Go.Proofs.YtbpahojchgpdnaaGreatDoor
open Go.RowKit Go.dM Go.Maps Go.Proofs.Tryz
variable {w:aH} {C lb x:Nat} {lv v:aK} {row:aD}
def IB (B:aD)(q c b l:Nat)(e:265<=c)(f:c<=284)(d:(c-261)/4=b)(a:(4+(c-265)%4)*2^b+3=l):eF B q c=if q+b<=8*B.length then .ok (l+aG B q b) (q+b)else .miss:=by unfold eF;rw[aB (by omega),aB (by omega),aB (by omega),d,a]
def UL (f g off cap z q c:Nat)(B:aD)(w:aH)(t:w.heap[f]? =some (.cells #[.slice (bE g off B.length) B.length cap,V q,V z] 91 (0,0)))(y:Src w g off B)(n:g≠f)(D:q<=8*B.length)(J:257<=c)(G:c<100000):Calls prog 201 #[E f,V c] w fun e w'=>RP (eF B q c) nat (nat 0) f w e w':=by
 have i:=hide (lV.refl t);obtain⟨res,d⟩:=aP (eF B q c);rw[<-d];by_cases u:285<c
 ·have s:res= .no 9:=by rw[d];unfold eF;rw[aA u]
  go_enter func201,ntmps201;go_wp2_with fail;go_ret2;rw[s];exact⟨rfl,_,i.o⟩
 by_cases H:c<265
 ·have s:res= .ok (c-257+3) q:=by rw[d];unfold eF;rw[aB u,aB (by omega),aA H]
  have A:((c:Int)==285)=false:=aX.2 (by omega);go_enter func201,ntmps201;go_wp2_with fail;go_ret2;rw[s];refine⟨?_,i.o⟩;have e:(c:Int)-257+3=((c-257+3:Nat):Int):=by omega
  rw[e];rfl
 by_cases F:c=285
 ·subst F;have p:=hide (show res= .ok 258 q by rw[d];rfl);go_enter func201,ntmps201;go_wp2_with fail;go_ret2;rw[p.o];exact⟨rfl,i.o⟩
 have r:c=265\/c=266\/c=267\/c=268\/c=269\/c=270\/c=271\/c=272\/c=273\/c=274\/c=275\/c=276\/c=277\/c=278\/c=279\/c=280\/c=281\/c=282\/c=283\/c=284:=by omega
 obtain⟨b,m⟩:∃b,(c-261)/4=b:=⟨_,rfl⟩
 obtain⟨l,j⟩:∃l,(4+(c-265)%4)*2^b+3=l:=⟨_,rfl⟩
 rw[IB B q c b l (by omega) (by omega) m j]at d;have I:=bO B q b;by_cases a:q+b<=8*B.length
 ·rw[aA a]at d;have p:=hide d;rcases r with rfl|rfl|rfl|rfl|rfl|rfl|rfl|rfl|rfl|rfl|rfl|rfl|rfl|rfl|rfl|rfl|rfl|rfl|rfl|rfl;all_goals
   simp only[Nat.reduceDiv,Nat.reduceSub]at m;subst m;simp only[Nat.reduceSub,Nat.reduceMod,Nat.reducePow,Nat.reduceMul,Nat.reduceAdd]at j;subst j;go_enter func201,ntmps201;go_wp2_with fail;apply(dO f g off cap z q _ B w t y n (by omega) a).mono;rintro e w1 ⟨rfl,k⟩;go_wp2_with fail;go_ret2;rw[p.o];exact⟨rfl,k⟩
 ·rw[aB a]at d;have p:=hide d;rcases r with rfl|rfl|rfl|rfl|rfl|rfl|rfl|rfl|rfl|rfl|rfl|rfl|rfl|rfl|rfl|rfl|rfl|rfl|rfl|rfl;all_goals
   simp only[Nat.reduceDiv,Nat.reduceSub]at m;subst m;go_enter func201,ntmps201;go_wp2_with fail;apply(dL f g off cap z q _ B w t y n (by omega) D (Nat.lt_of_not_le a)).mono;rintro e w1 ⟨rfl,k⟩;go_wp2_with fail;rw[p.o];exact⟨rfl,rfl,_,k⟩
def Nc (D:d9)(B:aD)(q s q' b l:Nat)(hs:lC D B q= .ok s q')(d:4<=s)(e:s<=29)(c:s/2-1=b)(a:(2+s%2)*2^b+1=l):iQ D B q=if q'+b<=8*B.length then .ok (l+aG B q' b) (q'+b)else .miss:=by unfold iQ;rw[hs];dsimp only;rw[aB (by omega),aB (by omega),c,a]
def al6 (w:aH)(v:aK)(D:d9)(f:Nat):Prop:=(v= .map none/\D.longest=0)\/∃mb,v= .map (some mb)/\mb≠f/\TabAt w mb D.tab
def ar6 (f g off cap z p:Nat)(x:Option Nat)(D:d9)(B:aD)(w:aH)(i:w.heap[f]? =some (.cells #[.slice (bE g off B.length) B.length cap,V p,V z] 91 (0,0)))(j:Src w g off B)(a:g≠f)(m:al6 w (.map x) D f)(l:D.longest<=15)(hp:p<=8*B.length):Calls prog 191 #[.agg #[.map x,V D.longest],E f] w fun e w'=>RP (lC D B p) nat (nat 0) f w e w':=by
 rcases m with⟨d,c⟩|⟨mb,d,b,n⟩
 ·rw[c];have k:lC D B p= .no 9:=by unfold lC;rw[c];rfl
  rw[k];exact Si f x w _ p i
 ·cases d;exact BM f g off cap z p mb D B w i j a n b l hp
set_option maxHeartbeats 8000000 in
def L8 (f g off cap z q:Nat)(x:Option Nat)(D:d9)(B:aD)(w:aH)(Q:w.heap[f]? =some (.cells #[.slice (bE g off B.length) B.length cap,V q,V z] 91 (0,0)))(X:Src w g off B)(t:g≠f)(hT:al6 w (.map x) D f)(hl:D.longest<=15)(hq:q<=8*B.length)(N:∀c s,D.tab c=some s->s<100000):Calls prog 202 #[E f, .agg #[.map x,V D.longest]] w fun e w'=>RP (iQ D B q) nat (nat 0) f w e w':=by
 obtain⟨box,G⟩:=aP (Obj.cells #[.map x,V D.longest] 123);have u:=lV.vU Q box;have L:al6 (w.alloc box) (.map x) D f:=by
  rcases hT with h|⟨mb,n,h2,h3⟩
  ·exact .inl h
  ·exact .inr ⟨mb,n,h2,h3.step u.step h2⟩
 have I:=ar6 f g off cap z q x D B (w.alloc box) (u.feed _ _ _ _ Q) (X.step u.step t) t L hl hq;rw[G]at I u;have p:=hide I;have r:=hide u;have W:=hide Q;have Z:=hide X;obtain⟨res,i⟩:=aP (iQ D B q);rw[<-i];clear Q I u L hT G;cases hs:lC D B q with
 |no e=>
  have he:=oU hs;subst he;have y:=hide (show res= .no 9 by rw[i];unfold iQ;rw[hs]);have n:=p.o;rw[hs]at n;have H:=hide n;clear n i hs p;go_enter func202,ntmps202;go_wp2_with fail;apply H.o.mono;rintro e w1 ⟨rfl,F,a⟩;have d:=hide (r.o.trans a);clear a;go_wp2_with fail;go_ret2;rw[y.o];exact⟨rfl,_,d.o⟩
 |miss=>
  have y:=hide (show res= .miss by rw[i];unfold iQ;rw[hs]);have n:=p.o;rw[hs]at n;have H:=hide n;clear n i hs p;go_enter func202,ntmps202;go_wp2_with fail;apply H.o.mono;rintro e w1 ⟨rfl,F,a⟩;have d:=hide (r.o.trans a);clear a;go_wp2_with fail;rw[y.o];exact⟨rfl,rfl,_,d.o⟩
 |ok s F=>
  have J:=oV hs;have S:=N _ _ J.2.2.2;have R:F<=8*B.length:=J.2.1;have n:=p.o;rw[hs]at n;have H:=hide n;clear n p J N;by_cases K:30<=s
  ·have y:=hide (show res= .no 9 by rw[i];unfold iQ;rw[hs];dsimp only;rw[aA K]);clear i hs;go_enter func202,ntmps202;go_wp2_with fail;apply H.o.mono;rintro e w1 ⟨rfl,a⟩;have d:=hide (r.o.trans a);clear a;go_wp2_with fail;go_ret2;rw[y.o];exact⟨rfl,_,d.o⟩
  by_cases Y:s<4
  ·have y:=hide (show res= .ok (s+1) F by rw[i];unfold iQ;rw[hs];dsimp only;rw[aB K,aA Y]);clear i hs;go_enter func202,ntmps202;go_wp2_with fail;apply H.o.mono;rintro e w1 ⟨rfl,a⟩;have d:=hide (r.o.trans a);clear a;go_wp2_with fail;go_ret2;rw[y.o];exact⟨rfl,d.o⟩
  have P:s=4\/s=5\/s=6\/s=7\/s=8\/s=9\/s=10\/s=11\/s=12\/s=13\/s=14\/s=15\/s=16\/s=17\/s=18\/s=19\/s=20\/s=21\/s=22\/s=23\/s=24\/s=25\/s=26\/s=27\/s=28\/s=29:=by omega
  clear K Y S;obtain⟨b,M⟩:∃b,s/2-1=b:=⟨_,rfl⟩
  obtain⟨l,A⟩:∃l,(2+s%2)*2^b+1=l:=⟨_,rfl⟩
  rw[Nc D B q s F b l hs (by omega) (by omega) M A]at i;have T:=bO B F b;by_cases j:F+b<=8*B.length
  ·rw[aA j]at i;have y:=hide i;clear i hs;rcases P with rfl|rfl|rfl|rfl|rfl|rfl|rfl|rfl|rfl|rfl|rfl|rfl|rfl|rfl|rfl|rfl|rfl|rfl|rfl|rfl|rfl|rfl|rfl|rfl|rfl|rfl;all_goals
    simp only[Nat.reduceDiv,Nat.reduceSub]at M;subst M;simp only[Nat.reduceMod,Nat.reducePow,Nat.reduceMul,Nat.reduceAdd]at A;subst A;go_enter func202,ntmps202;go_wp2_with fail;apply H.o.mono;rintro e w1 ⟨rfl,a⟩;have k:=r.o.trans a;have m:=hide k;clear a k;go_wp2_with fail;apply(dO f g off cap z F _ B w1 (m.o.feed _ _ _ _ W.o) (Z.o.step m.o.step t) t (by omega) j).mono;rintro e w2 ⟨rfl,k⟩;have d:=hide (m.o.trans k);clear k;go_wp2_with fail;go_ret2;rw[y.o];exact⟨rfl,d.o⟩
  ·rw[aB j]at i;have y:=hide i;clear i hs A T;rcases P with rfl|rfl|rfl|rfl|rfl|rfl|rfl|rfl|rfl|rfl|rfl|rfl|rfl|rfl|rfl|rfl|rfl|rfl|rfl|rfl|rfl|rfl|rfl|rfl|rfl|rfl;all_goals
    simp only[Nat.reduceDiv,Nat.reduceSub]at M;subst M;go_enter func202,ntmps202;go_wp2_with fail;apply H.o.mono;rintro e w1 ⟨rfl,a⟩;have k:=r.o.trans a;have m:=hide k;clear a k;go_wp2_with fail;apply(dL f g off cap z F _ B w1 (m.o.feed _ _ _ _ W.o) (Z.o.step m.o.step t) t (by omega) R (Nat.lt_of_not_le j)).mono;rintro e w2 ⟨rfl,k⟩;have d:=hide (m.o.trans k);go_wp2_with fail;rw[y.o];exact⟨rfl,rfl,_,d.o⟩
end Go.Proofs.YtbpahojchgpdnaaGreatDoor
namespace Go.Proofs.YtbpahojchgpdnaaGreatDoor
open Go.RowKit Go.dM Go.Proofs.Tryz
variable {w:aH} {C lb x:Nat} {lv v:aK} {row:aD}
def XR (r:R Nat)(b:bY)(s:XS)(y:Nat)(s':XS):Prop:=
 match r with
 | .ok a q=>y=a/\s'={ s with at_:=q }
 | .no e=>y<2^32/\∃a,a<=8*b.size/\s'={ s with err:=e,at_:=a }
 | .miss=>y<2^32/\∃a,a<=8*b.size/\s'={ s with err:=3,at_:=a }
abbrev qN (w:aH)(C:Nat)(L:aD):Prop:=bA w C 234 (2*L.length) (iY (gP L))
def EY (L:aD)(j v:Nat):Nat->Bool
 |0=>false
 |k+1=>EY L j v k||iL (gP L k).1 (gP L k).2 j v
def Vx (L:aD)(j v:Nat):∀k,EY L j v k=true↔∃s,s<k/\iL (gP L s).1 (gP L s).2 j v=true:=by
 intro k;induction k with
 |zero=>simp[EY]
 |succ k ih=>
  rw[EY,Bool.or_eq_true,ih];constructor
  ·rintro(⟨s,b,a⟩|h)
   ·exact⟨s,by omega,a⟩
   ·exact⟨k,by omega,h⟩
  ·rintro⟨s,b,a⟩;by_cases hk:s=k
   ·subst hk;exact .inr a
   ·exact .inl ⟨s,by omega,a⟩
def Xw (L:aD)(a:nx L 15<=65536)(s:Nat)(hs:s<L.length):(gP L s).1<=15/\(gP L s).2<2^40:=by
 unfold gP;split
 ·rename_i h;have:=(Q7 L a s hs h.1 h.2).2;have b:2^(L[s]?.getD 0+1)<=2^16:=gL (by omega) (by omega);exact⟨h.2,by dsimp only;omega⟩
 ·simp
def ER (D:d9)(B:aD)(p j:Nat):R Nat:=match D.tab (bU B p j)with|some y=> .ok y (p+j)|none=>jN D B p (D.longest-j) j
def Nu (L:aD)(B:aD)(p:Nat):ER (aI L) B p 0=lC (aI L) B p:=by unfold ER;rw[show bU B p 0=1 from rfl,Qw L];rfl
def Jg (D:d9)(B:aD)(p j:Nat)(hn:D.tab (bU B p j)=none)(a:j<D.longest):ER D B p j=if p+j<8*B.length then ER D B p (j+1)else .miss:=by
 have e:ER D B p j=jN D B p (D.longest-j) j:=by unfold ER;rw[hn]
 rw[e,show D.longest-j=(D.longest-(j+1))+1 by omega,jN];rfl
def Qx (D:d9)(B:aD)(p j:Nat)(hn:D.tab (bU B p j)=none)(a:D.longest<=j):ER D B p j= .no 9:=by unfold ER;rw[hn,show D.longest-j=0 by omega];rfl
structure QE (w wr:aH)(x base C Z j:Nat)(L:aD)(b:bY)(s s1:XS):Prop where
 xat:j6 wr x base b s1
 wrt:dH x w s.v wr s.v
 codes:qN wr C L
 box:wr.heap[Z]? =some (.cells #[nat j,nat (bU (bytesOf b) s.at_ j-2^j)] 234 (0,0))
def QE.step0 {wr a:aH}{base Z j:Nat}{L:aD}{b:bY}{s c:XS}(h:QE w wr x base C Z j L b s c)(hs:O wr a):QE w a x base C Z j L b s c:=⟨h.xat.step0 hs,h.wrt.step0 hs,h.codes.step hs (fun y=>y),hs.at_ h.box (fun y=>y)⟩
def BF (x base C:Nat)(L:aD)(b:bY)(s:XS)(w:aH)(h:j6 w x base b s)(hC:qN w C L)(bm:Off x s.v C)(hL:∀i:Nat,L[i]?.getD 0<=15)(hn:L.length<=1000)(hf:p9 L=true)(h0:s.err=0):Calls prog 168 #[E x, .slice (some (U C 0)) L.length L.length] w fun r w'=>∃y s',r= .returned (nat y)/\XR (lC (aI L) (bytesOf b) s.at_) b s y s'/\j6 w' x base b s'/\dH x w s.v w' s.v/\(s'.err≠0->y=0):=by
 obtain⟨res,ab⟩:=aP (lC (aI L) (bytesOf b) s.at_);rw[<-ab];have bk:=hide ab;clear ab;go_enter func168,ntmps168;go_wp2_with fail;obtain⟨Z,hZ⟩:=aP w.heap.size;have bu:=hC.lt;have bp:=aO h.blk;have bh:∀k,s.v.ownBlock=some k->k<w.heap.size:=fun k hk=>(h.own.lt k hk).2;have K:O w (w.alloc (.cells #[V 0,V 0] 234)):=(aU _ _).alloc _;have A:QE w (w.alloc (.cells #[V 0,V 0] 234)) x base C Z 0 L b s s:=⟨h.step0 K,(dH.refl x w s.v).step0 K,hC.step K (fun y=>y),by rw[hZ];exact aR _ _⟩
 rw[<-hZ];have aq:¬Z=x:=by omega
 have G:Off x s.v Z:=⟨by omega,fun e=>by have:=bh Z e;omega⟩
 have bb:¬Z=C:=by omega
 have M:w.heap.size<=Z:=by omega
 have X:=Bu L hL hf;have br:=pY L;generalize w.alloc (.cells #[V 0,V 0] 234)=w1 at*;clear hZ h hC K;have ax:=bytesOf_length b
 go_loopg [6] 18 (fun k u wr=>(∃j,j<=(aI L).longest/\17<=j+k/\s.at_+j<=8*b.size/\(∀i,1<=i->i<j->(aI L).tab (bU (bytesOf b) s.at_ i)=none)/\ER (aI L) (bytesOf b) s.at_ j=res/\QE w wr x base C Z j L b s { s with at_:=s.at_+j })\/
  (res= .miss/\∃a,a<=8*b.size/\j6 wr x base b { s with err:=3,at_:=a }/\dH x w s.v wr s.v))
 case atStart=>exact .inl ⟨0,by omega,by omega,A.xat.there,fun i h1 h2=>by omega,by rw[Nu,bk.o],A⟩
 case round=>
  clear A;rcases hrel with⟨j,hj,bw,ar,be,m,hrel⟩|⟨m,a,ha,hx,hw⟩
  ·obtain⟨_,_,c2,_⟩:=hrel.xat.cell;dsimp only at c2;rw[h0]at c2;obtain⟨v,hv⟩:=aP (bU (bytesOf b) s.at_ j-2^j);have bc:=JD (bytesOf b) s.at_ j;have bn:2^(j+1)<=2^16:=gL (by omega) (by omega);have bo:v<65536:=(by omega);have HV:=hide hv;clear hv;go_wp2_with fail;go_loopw [6,7] (fun sm i wr2=>∃k:Nat,k<=L.length/\i=V (k:Nat)/\sm= .bool (EY L j v k)/\(∀t,t<k->(aI L).tab (bU (bytesOf b) s.at_ j)≠some t)/\O wr wr2) (fun _ i _=>L.length-(intOf i).toNat);case atStart=>exact⟨0,by omega,rfl,rfl,fun t h1=>by omega,aU _ _⟩
   case round=>
    obtain⟨k,hk,rfl,rfl,Y,an⟩:=hrel;have f:=hrel.step0 an;by_cases ah:k<L.length
    ·have aa:=Xw L X k ah;have N:=XJ L X hL j (bU (bytesOf b) s.at_ j) k bc ah;rw[<-HV.o]at N;obtain⟨n,J⟩:=aP ((gP L k).1);obtain⟨c,I⟩:=aP ((gP L k).2);have z0:=f.codes.cell (k*2) (by omega);have z1:=f.codes.cell (k*2+1) (by omega);have e0:iY (gP L) (k*2)=nat n:=(by unfold iY;rw[aA (by omega),show k*2/2=k by omega,J]);have e1:iY (gP L) (k*2+1)=nat c:=(by unfold iY;rw[aB (by omega),show(k*2+1)/2=k by omega,I]);rw[e0]at z0;rw[e1]at z1;have ac:EY L j v (k+1)=(EY L j v k||iL n c j v):=(by rw[EY,J,I]);rw[<-J,<-I]at aa N;have bs:(k:Int)<(L.length:Int):=(by omega);have bq:(0:Int)<=(k:Int):=(by omega);obtain⟨b0,b1,_,_⟩:=gB f.box;rw[<-HV.o]at b1;have ba:O wr (wr.alloc (.cells #[nat n,nat c] 234)):=(aU _ _).alloc _;have av:=Kn n c j v (wr.alloc (.cells #[nat n,nat c] 234)) aa.1 aa.2 (by omega) (by omega);have ca:=f.codes.lt;have cc:=aO f.box;clear e0 e1 J I f;go_wp2_with fail;apply av.mono;rintro e w3 ⟨rfl,ae⟩;have T:=ba.trans ae;have bv:w3.cell? (U wr.heap.size 0)=some (nat n):=ae.cell (aC (aR wr (.cells #[nat n,nat c] 234)) 0 _ rfl) (fun y=>y);have bx:w3.cell? (U Z 0)=some (nat j):=T.cell b0 (fun y=>y);have W:=hide (an.trans T);clear ae;obtain⟨am,F⟩:=aP (EY L j v k);rw[<-F]at ac|-
     clear F;by_cases H:iL n c j v=true/\n=j
     ·obtain⟨aj,az⟩:=H;rw[aj];have S:=N.1 ⟨aj,az⟩;have bj:((n:Int)==(j:Int))=true:=dI.2 (by omega);have aw:res= .ok k (s.at_+j):=by
       rw[<-m];unfold ER;rw[S]
      clear S;rcases am with _|_;all_goals
       go_wp2_with fail;go_ret;have h9:=hrel.step0 W.o;exact⟨k,_,rfl,by rw[aw];exact⟨rfl,rfl⟩,h9.xat,h9.wrt,fun h8=>absurd h0 h8⟩
     ·have ad:iL n c j v=false\/(iL n c j v=true/\((n:Int)==(j:Int))=false):=by
       cases hb:iL n c j v with
       |false=>exact .inl rfl
       |true=>exact .inr ⟨rfl,aX.2 (fun e=>H ⟨hb,by omega⟩)⟩
      have al:(aI L).tab (bU (bytesOf b) s.at_ j)≠some k:=fun e=>H (N.2 e);have ay:=hide (show∀t,t<k+1->(aI L).tab (bU (bytesOf b) s.at_ j)≠some t from fun t ht=>by
       by_cases bf:t=k
       ·rw[bf];exact al
       ·exact Y t (by omega))
      clear al H;rcases ad with hb|⟨hb,bj⟩
      all_goals
       rw[hb]at ac|-
       rcases am with _|_;all_goals
        go_wp2_with fail;exact⟨⟨k+1,by omega,by go_num,by rw[ac];rfl,ay.o,W.o⟩,by simp[intOf];omega⟩
    ·have:k=L.length:=(by omega);subst this;have g:(aI L).tab (bU (bytesOf b) s.at_ j)=none:=by
      cases ht:(aI L).tab (bU (bytesOf b) s.at_ j)with
      |none=>rfl
      |some t=>exact absurd ht (Y t ((l8 L 15 _ t).1 ht).1)
     have D:∀i,1<=i->i<=j->(aI L).tab (bU (bytesOf b) s.at_ i)=none:=fun i h1 h2=>by
      by_cases bg:i=j
      ·rw[bg];exact g
      ·exact be i h1 (by omega)
     have d:=ac3 L hL hf (bytesOf b) s.at_ j hj D;rw[<-Vx,<-HV.o]at d;have bz:=hide f.xat;obtain⟨am,F⟩:=aP (EY L j v L.length);rw[<-F]at d|-
     clear F;by_cases af:j<(aI L).longest
     ·have ha:am=true:=d.2 af;subst ha;have q:=Jg (aI L) (bytesOf b) s.at_ j g af;rw[m,ax]at q;have ag:=YL x base b _ wr f.xat;have ao:=hide D;clear D g d;go_wp2_with fail;apply ag.mono;rintro e w3 ⟨rfl,l,z⟩;have P:=f.codes.wrt bm z;have B:=z.step.at_ f.box (fun y=>y.elim G.1 G.2);have Q:=f.wrt.trans z;obtain⟨q0,q1,bt,cb⟩:=gB B;rw[<-HV.o]at q1;by_cases ak:s.at_+j<8*b.size
      ·have eb:p8 b { s with at_:=s.at_+j }=(bK (bytesOf b) (s.at_+j),{ s with at_:=s.at_+j+1 }):=by
        unfold p8;rw[aB (by dsimp only;omega),aA (by dsimp only;omega)]
       rw[eb]at l|-
       have q:=q;rw[aA ak]at q;have ai:=kQ (bytesOf b) (s.at_+j);obtain⟨y,hy⟩:=aP (bK (bytesOf b) (s.at_+j));dsimp only at l|-
       rw[<-hy]at ai|-
       have au:bU (bytesOf b) s.at_ (j+1)-2^(j+1)=2*v+y:=by
        rw[bU,HV.o,hy,gW];omega
       clear z hy eb;go_wp2_with fail;go_roundg (gk-1);case measure=>omega
       case rel=>
        have hz:Step (·=Z) w3 ((w3.setCell (U Z 0) (V ((j:Int)+1))).setCell (U Z 1) (V (2*(v:Int)+(y:Int)))):=((aU (·=Z) w3).setCell (p:=(U Z 0)) rfl _).setCell (p:=(U Z 1)) rfl _;refine .inl ⟨j+1,by omega,by omega,by omega,fun i h1 h2=>ao.o i h1 (by omega),q.symm,⟨l.step hz (fun e=>aq e.symm) (fun k hk e=>G.2 (e▸hk)),(Q.aZ M _).aZ M _,P.step hz (fun e=>bb e.symm),?_⟩⟩;rw[au];have h9:=aV (aV B 0 (V ((j:Int)+1))) 1 (V (2*(v:Int)+(y:Int)));rw[h9];simp[nat]
      ·have eb:p8 b { s with at_:=s.at_+j }=(0,{ s with at_:=s.at_+j,err:=3 }):=by
        unfold p8;rw[aB (by dsimp only;omega),aB (by dsimp only;omega)]
       rw[eb]at l|-
       have q:=q;rw[aB ak]at q;dsimp only at l|-
       clear P B z eb;go_wp2_with fail;go_roundg (gk-1);case measure=>omega
       case rel=>
        refine .inr ⟨q,s.at_+j,ar,?_,(Q.aZ M _).aZ M _⟩;refine l.step (((aU (·=Z) w3).setCell (p:=(U Z 0)) rfl _).setCell (p:=(U Z 1)) rfl _) (fun e=>aq e.symm) (fun k hk e=>G.2 (e▸hk))
     ·have ha:am=false:=by
       cases h9:am with
       |false=>rfl
       |true=>exact absurd (d.1 h9) af
      subst ha;have R:=Qx (aI L) (bytesOf b) s.at_ j g (by omega);rw[m]at R;clear D g d;go_wp2_with fail;apply(iK x base 9 b _ wr f.xat).mono;rintro e w3 ⟨rfl,l,z⟩;dsimp only at l z;rw[aA h0]at l;have bl:=hide (f.wrt.trans z);clear z;go_wp2_with fail;go_ret;exact⟨0,_,rfl,by rw[R];exact⟨by decide,s.at_+j,ar,rfl⟩,l,bl.o,fun _=>rfl⟩
  ·obtain⟨_,_,c2,_⟩:=hx.cell;dsimp only at c2;have ap:=hide m;clear m;go_wp2_with fail;go_ret;exact⟨0,rfl,_,by rw[ap.o];exact⟨by decide,a,ha,rfl⟩,hx,hw,fun _=>rfl⟩
def XK (B:aD)(q e l:Nat):R Nat:=if q+e<=8*B.length then .ok (l+aG B q e) (q+e)else .miss
def Fa (b:bY)(s:XS)(a:s.err=0)(c:s.at_<=8*b.size)(e l:Nat)(d:e<=20)(f:l<=1000000):XR (XK (bytesOf b) s.at_ e l) b s (l+(cB b s e).1) (cB b s e).2:=by
 unfold XK;rw[bytesOf_length];by_cases h:s.at_+e<=8*b.size
 ·rw[aA h,jH b s a e h];exact⟨rfl,rfl⟩
 ·rw[aB h,j3 b s a c e (by omega)];have g:=jM b s e;have i:2^e<=2^20:=gL (by omega) d;refine⟨by omega,8*b.size,aS _,rfl⟩
def Bc (x base c:Nat)(b:bY)(s:XS)(w:aH)(h:j6 w x base b s)(m:s.err=0)(B:257<=c)(p:c<=285):Calls prog 169 #[E x,V c] w fun r w'=>∃y s',r= .returned (nat y)/\XR (eF (bytesOf b) s.at_ c) b s y s'/\j6 w' x base b s'/\dH x w s.v w' s.v:=by
 have u:=h.there;obtain⟨res,a⟩:=aP (eF (bytesOf b) s.at_ c);rw[<-a];by_cases D:c<=264
 ·have q:res= .ok (c-257+3) s.at_:=by rw[a];unfold eF;rw[aB (by omega),aB (by omega),aA (by omega)]
  go_enter func169,ntmps169;go_wp2_with fail;go_ret;have t:(c:Int)-254=((c-257+3:Nat):Int):=by omega
  rw[t];exact⟨c-257+3,s,rfl,by rw[q];exact⟨rfl,rfl⟩,h,dH.refl _ _ _⟩
 by_cases n:c=285
 ·subst n;have z:=hide (show res= .ok 258 s.at_ by rw[a];rfl);go_enter func169,ntmps169;go_wp2_with fail;go_ret;exact⟨258,s,rfl,by rw[z.o];exact⟨rfl,rfl⟩,h,dH.refl _ _ _⟩
 have k:c=265\/c=266\/c=267\/c=268\/c=269\/c=270\/c=271\/c=272\/c=273\/c=274\/c=275\/c=276\/c=277\/c=278\/c=279\/c=280\/c=281\/c=282\/c=283\/c=284:=by omega
 obtain⟨e,f⟩:=aP ((c-261)/4);obtain⟨l,i⟩:=aP ((4+(c-265)%4)*2^e+3);rw[IB (bytesOf b) s.at_ c e l (by omega) (by omega) f.symm i.symm]at a;rcases k with rfl|rfl|rfl|rfl|rfl|rfl|rfl|rfl|rfl|rfl|rfl|rfl|rfl|rfl|rfl|rfl|rfl|rfl|rfl|rfl;all_goals
  simp at f;simp[f]at i;have d:=Fa b s m u e l (by omega) (by omega);unfold XK at d;rw[<-a]at d;have A:=jM b s e;have hn:=gD x base e b s w h (by omega);subst f i;go_enter func169,ntmps169;go_wp2_with fail;apply hn.mono;rintro e w1 ⟨rfl,g,j⟩;go_wp2_with fail;go_ret;refine⟨_,_,?_,d,g,j⟩;rfl
def rD (B:aD)(q s:Nat):R Nat:=if s<4 then .ok (s+1) q else XK B q (s/2-1) ((2+s%2)*2^(s/2-1)+1)
def WE (x base c:Nat)(b:bY)(s:XS)(w:aH)(h:j6 w x base b s)(n:s.err=0)(o:c<30):Calls prog 170 #[E x,V c] w fun r w'=>∃y s',r= .returned (nat y)/\XR (rD (bytesOf b) s.at_ c) b s y s'/\j6 w' x base b s'/\dH x w s.v w' s.v:=by
 have q:=h.there;obtain⟨res,a⟩:=aP (rD (bytesOf b) s.at_ c);rw[<-a];by_cases m:c<4
 ·have p:res= .ok (c+1) s.at_:=by rw[a];unfold rD;rw[aA m]
  go_enter func170,ntmps170;go_wp2_with fail;go_ret;exact⟨c+1,s,rfl,by rw[p];exact⟨rfl,rfl⟩,h,dH.refl _ _ _⟩
 have k:c=4\/c=5\/c=6\/c=7\/c=8\/c=9\/c=10\/c=11\/c=12\/c=13\/c=14\/c=15\/c=16\/c=17\/c=18\/c=19\/c=20\/c=21\/c=22\/c=23\/c=24\/c=25\/c=26\/c=27\/c=28\/c=29:=by omega
 obtain⟨e,f⟩:=aP (c/2-1);obtain⟨l,i⟩:=aP ((2+c%2)*2^e+1);unfold rD at a;rw[aB m,<-f,<-i]at a;rcases k with rfl|rfl|rfl|rfl|rfl|rfl|rfl|rfl|rfl|rfl|rfl|rfl|rfl|rfl|rfl|rfl|rfl|rfl|rfl|rfl|rfl|rfl|rfl|rfl|rfl|rfl;all_goals
  simp at f;simp[f]at i;have d:=Fa b s n q e l (by omega) (by omega);rw[<-a]at d;have t:=jM b s e;have hn:=gD x base e b s w h (by omega);subst f i;go_enter func170,ntmps170;go_wp2_with fail;apply hn.mono;rintro e w1 ⟨rfl,g,j⟩;go_wp2_with fail;go_ret;refine⟨_,_,?_,d,g,j⟩;rfl
def oK (D:d9)(B:aD)(n p:Nat)(row:aD):R (aD):=
 match lC D B p with
 | .no e=> .no e
 | .miss=> .miss
 | .ok s q=>
  if s=16/\row.length=0 then .no 8 else
  match fO B q s row with
  | .no e=> .no e
  | .miss=> .miss
  | .ok lt q'=>if n<row.length+lt.2 then .no 8 else .ok (row++List.replicate lt.2 lt.1) q'
def Lm (D:d9)(B:aD)(n k p:Nat)(row:aD)(h:row.length<n):iC D B n (k+1) p row=match oK D B n p row with| .no e=> .no e| .miss=> .miss| .ok row' q=>iC D B n k q row':=by
 rw[iC,aB (by omega)];unfold oK;cases lC D B p with
 |no e=>rfl
 |miss=>rfl
 |ok s q=>
  dsimp only;by_cases a:s=16/\row.length=0
  ·rw[aA a,aA a]
  ·rw[aB a,aB a];cases fO B q s row with
   |no e=>rfl
   |miss=>rfl
   |ok lt q'=>
    dsimp only;by_cases b:n<row.length+lt.2
    ·rw[aA b,aA b]
    ·rw[aB b,aB b]
structure AJ (w:aH)(lb x C:Nat)(v lv:aK)(row:aD):Prop where
 own:w.ownsRow lb 3 1 lv row.length (TJ row)
 lx:x<lb
 lc:C<lb
 lv_:∀k,v.ownBlock=some k->k<lb
 le:lb<=w.heap.size
 aC5:∀i:Nat,row[i]?.getD 0<=15
 few:row.length<=400
def AJ.slice (h:AJ w lb x C v lv row):∃a c,lv= .slice a row.length c:=by
 obtain⟨_,⟨b,hn⟩|⟨g,cap,_,b,_⟩⟩:=h.own
 ·exact⟨none,0,by rw[b,hn]⟩
 ·exact⟨_,_,b⟩
def AJ.wrt {w':aH}(h:AJ w lb x C v lv row)(a:dH x w v w' v):AJ w' lb x C v lv row:=
 ⟨bX h.own (fun k hk=>a.step.block k (h.own.lt k hk).2 (fun e=>by
  have b:=(h.own.lt k hk).1
  rcases e with e|e
  ·have:=h.lx;omega
  ·have:=h.lv_ k e;omega)),h.lx,h.lc,h.lv_,bB h.le a.step.size,h.aC5,h.few⟩
def ES (r:R (aD))(w:aH)(x base C lb:Nat)(b:bY)(s:XS)(row:aD)(lv':aK)(s':XS)(w':aH):Prop:=
 j6 w' x base b s'/\Step (fun k=>k=x\/s.v.ownBlock=some k\/lb<=k) w w'/\
 match r with
 | .ok row' q=>s'={ s with at_:=q }/\AJ w' lb x C s.v lv' row'
 | .no e=>(∃a,a<=8*b.size/\s'={ s with err:=e,at_:=a })/\AJ w' lb x C s.v lv' row
 | .miss=>(∃a,a<=8*b.size/\s'={ s with err:=3,at_:=a })/\AJ w' lb x C s.v lv' row
def AJ.one {w':aH}{j a g cap:Nat}(h:AJ w lb x C v lv (row++List.replicate j a))(e:a<=15)(k:row.length+j<400)(hs:w.heap.size<=w'.heap.size)(d:w'.ownsRow lb 3 1 (.slice (some (U g 0)) (row.length+j+1) cap) (row.length+j+1) (TJ (row++List.replicate j a)++[nat a])):AJ w' lb x C v (.slice (some (U g 0)) (row.length+j+1) cap) (row++List.replicate (j+1) a):=by
 have f:row++List.replicate (j+1) a=(row++List.replicate j a)++[a]:=by rw[dB,<-OX]
 have e3:(row++List.replicate (j+1) a).length=row.length+j+1:=by simp;omega
 refine⟨?_,h.lx,h.lc,h.lv_,bB h.le hs,?_,by omega⟩
 ·rw[e3,f];simpa[TJ,nat]using d
 ·refine zX row (j+1) a (fun i=> ?_) e;by_cases b:i<row.length
  ·have c:=h.aC5 i;rw[jA b]at c;exact c
  ·rw[fZ (by omega)];simp
def ZG (x base C lb n:Nat)(L row:aD)(b:bY)(s:XS)(lv:aK)(w:aH)(h:j6 w x base b s)(hC:qN w C L)(bx:Off x s.v C)(hL:∀i:Nat,L[i]?.getD 0<=15)(hn:L.length=19)(P:p9 L=true)(h0:s.err=0)(T:AJ w lb x C s.v lv row)(cj:n<=400)(cl:row.length<n):Calls prog 172 #[E x, .slice (some (U C 0)) L.length L.length,lv,V n] w fun r w'=>∃bc s',r= .returned bc/\ES (oK (aI L) (bytesOf b) n s.at_ row) w x base C lb b s row bc s' w':=by
 obtain⟨la,lc,bv⟩:=T.slice;obtain⟨i0,hi,bw,bq,br⟩:=eD info3;have am:=hide (BF x base C L b s w h hC bx hL (by omega) P h0);obtain⟨res,ap⟩:=aP (oK (aI L) (bytesOf b) n s.at_ row);rw[<-ap];subst bv;have ak:=hide T;have ax:=hide ap;have bo:=hide (show∀k t,(aI L).tab k=some t->t<19 from fun k t ht=>by have:=((l8 L 15 k t).1 ht).1;omega);clear T ap h hC hn;go_enter func172,ntmps172;go_wp2_with fail;apply am.o.mono;rintro r w1 ⟨y,s1,rfl,ay,N,ae,bb⟩;have z:=ak.o.wrt ae;have K:Step (fun k=>k=x\/s.v.ownBlock=some k\/lb<=k) w w1:=ae.step.mono (fun k hk=>hk.elim .inl (fun e=> .inr (.inl e)));rcases hrs:lC (aI L) (bytesOf b) s.at_ with⟨t,g⟩|e1|_;all_goals rw[hrs]at ay
 case ok=>
  have ar:=oV hrs;have ca:=bo.o _ _ ar.2.2.2;have bh:g<=8*b.size:=by have:=ar.2.1;rw[bytesOf_length]at this;exact this
  obtain⟨rfl,rfl⟩:=ay;have c:res=(if y=16/\row.length=0 then .no 8 else match fO (bytesOf b) g y row with| .no e=> .no e| .miss=> .miss| .ok lt q'=>if n<row.length+lt.2 then .no 8 else .ok (row++List.replicate lt.2 lt.1) q'):=by rw[ax.o];unfold oK;rw[hrs]
  obtain⟨_,_,c2,_⟩:=N.cell;dsimp only at c2;rw[h0]at c2;have Y:=hide N;have u:=hide K;have d:=hide z;clear N ae K z hrs ar am ak ax bb;have bp:(y=16/\row.length=0)\/(y=16/\1<=row.length)\/y=17\/y=18\/y<16:=by omega
  rcases bp with⟨rfl,ba⟩|⟨rfl,bt⟩|rfl|rfl|bn
  ·have f:=hide (show res= .no 8 by rw[c,aA ⟨rfl,ba⟩]);obtain rfl:=List.length_eq_zero_iff.1 ba;clear c;go_wp2_with fail;apply(iK x base 8 b { s with at_:=g } w1 Y.o).mono;rintro r w9 ⟨rfl,q,M⟩;replace q:j6 w9 x base b { s with at_:=g,err:=if s.err=0 then 8 else s.err }:=q;rw[aA h0]at q;go_wp2_with fail;go_ret;refine⟨_,{ s with at_:=g,err:=8 },rfl,?_⟩;rw[f.o];exact⟨q,u.o.trans (M.step.mono (fun k hk=>hk.elim .inl (fun e=> .inr (.inl e)))),⟨g,bh,rfl⟩,d.o.wrt M⟩
  focus
   obtain⟨p,ag⟩:=aP (row[row.length-1]?.getD 0);obtain⟨g9,rfl,aw⟩:∃g9,la=some (U g9 0)/\w1.cell? ⟨g9,row.length-1,none⟩=some (nat p):=by
    have m:=d.o.own;obtain⟨_,⟨hv,hz⟩|⟨g',cb,cd,hv,_⟩⟩:=m
    ·omega
    ·simp only[nK]at hv;refine⟨g',hv.1,?_⟩;have m:=d.o.own;rw[hv.1]at m;rw[m.cellAt (row.length-1) (by omega),ag];simp[bV (show row.length-1<row.length by omega)]
   obtain⟨t9,bg⟩:=aP (row.length-1);rw[<-bg]at aw;have cg:IntKind.i64.wrap ((row.length:Int)-1)=(t9:Int):=(by rw[dK];omega);have cn:(0:Int)<=(t9:Int):=(by omega);have ce:(t9:Int)<(row.length:Int):=(by omega);have bz:((row.length:Int)==0)=false:=aX.2 (by omega);obtain⟨k,Q,hk,aa,hB,X,I⟩:∃k Q:Nat,k=2/\Q=3/\fO (bytesOf b) g 16 row=(if g+k<=8*(bytesOf b).length then .ok (p,aG (bytesOf b) g k+Q) (g+k)else .miss)/\nat p=nat p/\p<=15:=⟨2,3,rfl,rfl,by rw[ag];rfl,rfl,by rw[ag];exact d.o.aC5 _⟩
   have aq:¬(16=16/\row.length=0):=(by omega);clear ag bg
  rotate_left;focus
   obtain⟨k,Q,p,hk,aa,hB,X,I⟩:∃k Q p:Nat,k=3/\Q=3/\fO (bytesOf b) g 17 row=(if g+k<=8*(bytesOf b).length then .ok (p,aG (bytesOf b) g k+Q) (g+k)else .miss)/\nat p=V 0/\p<=15:=⟨3,3,0,rfl,rfl,rfl,rfl,by omega⟩
   have aq:¬(17=16/\row.length=0):=by omega
  rotate_left;focus
   obtain⟨k,Q,p,hk,aa,hB,X,I⟩:∃k Q p:Nat,k=7/\Q=11/\fO (bytesOf b) g 18 row=(if g+k<=8*(bytesOf b).length then .ok (p,aG (bytesOf b) g k+Q) (g+k)else .miss)/\nat p=V 0/\p<=15:=⟨7,11,0,rfl,rfl,rfl,rfl,by omega⟩
   have aq:¬(18=16/\row.length=0):=by omega
  rotate_left 2;iterate 3
   focus
    have e1:=gD x base k b { s with at_:=g } w1 Y.o (by omega);have bf:=jM b { s with at_:=g } k;rw[hB,aB aq,bytesOf_length]at c;by_cases av:g+k<=8*b.size;focus
     rw[jH b { s with at_:=g } h0 k av]at e1 bf;rw[aA av]at c;dsimp only at c bf e1;generalize aG (bytesOf b) g k=v at*;obtain⟨tm,ai⟩:=aP (v+Q);obtain⟨q2,az⟩:=aP (g+k);rw[<-ai,<-az]at c;rw[<-az]at e1;subst hk aa;have f:=hide c;have R:=hide e1;clear c e1 hB;go_wp2_with fail;apply R.o.mono;rintro r w2 ⟨rfl,F,B⟩;have H:=hide (d.o.wrt B);have Z:=hide (u.o.trans (B.step.mono (fun k hk=>hk.elim .inl (fun e=> .inr (.inl e)))));obtain⟨_,_,c3,_⟩:=F.cell;dsimp only at c3;rw[h0]at c3;have af:=hide F;clear R F B d u Y;by_cases W:n<row.length+tm
     ·have bm:(n:Int)<(row.length:Int)+(tm:Int):=(by omega);go_wp2_with fail;apply(iK x base 8 b { s with at_:=q2 } w2 af.o).mono;rintro r w9 ⟨rfl,q,M⟩;dsimp only at q;rw[aA h0]at q;obtain⟨_,_,c9,_⟩:=q.cell;have A:=hide (show ES res w x base C lb b s row _ _ w9 by
       rw[f.o,aA W];exact⟨q,Z.o.trans (M.step.mono (fun k hk=>hk.elim .inl (fun e=> .inr (.inl e)))),⟨q2,af.o.there,rfl⟩,H.o.wrt M⟩)
      clear q M;go_wp2_with fail;go_loopw [2,15] (fun l i wr=>i=V 0/\∃J,J.err≠0/\ES res w x base C lb b s row l J wr) (fun _ _ _=>0);case atStart=>exact⟨rfl,_,by first|exact he|simp,A.o⟩
      case round=>
       obtain⟨rfl,J,h9,P⟩:=hrel;have hb:((J.err:Int)==0)=false:=aX.2 (by omega);obtain⟨_,_,c9,_⟩:=P.1.cell;have A:=hide P;clear P;go_wp2_with fail;go_ret;first|exact⟨_,_,rfl,A.o⟩|exact⟨_,rfl,_,A.o⟩
    rotate_left
    ·rw[j3 b { s with at_:=g } h0 bh k (by dsimp only;omega)]at e1;rw[aB av]at c;generalize(cB b { s with at_:=g } k).1=v at*;subst hk aa;have f:=hide c;have R:=hide e1;clear c e1 hB;go_wp2_with fail;apply R.o.mono;rintro r w2 ⟨rfl,F,B⟩;obtain⟨_,_,c3,_⟩:=F.cell;have A:=hide (show ES res w x base C lb b s row _ _ w2 by
      rw[f.o];exact⟨F,u.o.trans (B.step.mono (fun k hk=>hk.elim .inl (fun e=> .inr (.inl e)))),⟨_,aS _,rfl⟩,d.o.wrt B⟩)
     clear F B R;go_wp2_with fail;go_loopw [2,15] (fun l i wr=>i=V 0/\∃J,J.err≠0/\ES res w x base C lb b s row l J wr) (fun _ _ _=>0);case atStart=>exact⟨rfl,_,by first|exact he|simp,A.o⟩
     case round=>
      obtain⟨rfl,J,h9,P⟩:=hrel;have hb:((J.err:Int)==0)=false:=aX.2 (by omega);obtain⟨_,_,c9,_⟩:=P.1.cell;have A:=hide P;clear P;go_wp2_with fail;go_ret;first|exact⟨_,_,rfl,A.o⟩|exact⟨_,rfl,_,A.o⟩
   rotate_left
  focus
   have ch:((y:Int)==16)=false:=aX.2 (by omega);have cf:((y:Int)==17)=false:=aX.2 (by omega);have ck:((y:Int)==18)=false:=aX.2 (by omega);obtain⟨tm,ai⟩:=aP 1;obtain⟨p,rfl⟩:=aP y;obtain⟨q2,rfl⟩:=aP g;obtain⟨w2,rfl⟩:=aP w1;rw[aB (by omega)]at c;unfold fO at c;rw[aA bn]at c;dsimp only at c;rw[<-ai]at c;have f:=hide c;have X:nat p=nat p:=rfl;have I:p<=15:=(by omega);have af:=Y;have H:=d;have Z:=u;have W:¬n<row.length+tm:=(by omega);clear c Y d u
  all_goals
    have bm:¬(n:Int)<(row.length:Int)+(tm:Int):=(by omega);go_wp2_with fail;go_loopw [2,15] (fun l i wr=>∃j:Nat,j<=tm/\i=V j/\AJ wr lb x C s.v l (row++List.replicate j p)/\j6 wr x base b { s with at_:=q2 }/\Step (fun k=>k=x\/s.v.ownBlock=some k\/lb<=k) w wr) (fun _ i _=>tm-(intOf i).toNat);case atStart=>exact⟨0,by omega,rfl,by simpa using H.o,af.o,Z.o⟩
    case round=>
     obtain⟨j,hj,rfl,D,S,ab⟩:=hrel;obtain⟨ja,jc,bj⟩:=D.slice;obtain⟨_,_,c9,_⟩:=S.cell;dsimp only at c9;rw[h0]at c9;have ao:(row++List.replicate j p).length=row.length+j:=(by rw[aN,dQ]);rw[ao]at bj;subst bj;by_cases cm:j<tm
     ·have m:=D.own;rw[ao]at m;have be:=hide m;have au:=hide D;have bl:=hide S;have bu:=hide ab;have bk:=D.le;clear m D S ab ao;go_wp2_with (at_builtin;refine fQ _ rfl _ _ 57 rfl lb 3 i0 (V 0) 1 8 underlying57 hi bw bq br rfl (by decide) _ (row.length+j) (TJ (row++List.replicate j p)) rfl (by exact be.o.alloc _) (U wr.heap.size 0) 1 1 [nat p] rfl rfl ?_ ?_ (by decide) ?_ ?_ ?_ ?_);any_goals first
       |(unfold maxLen;omega)
       |omega
       |exact bB bk (by simp)
       |rfl
      intro g9 cc w9 G al bs;have ac:Step (fun k=>lb<=k) wr w9:=((aU _ wr).alloc _).grown al (fun k hk=> .inl (be.o.lt k hk).1);have an:=au.o.one I (by omega) ac.size (by
       simp only[TJ,sS,List.map_replicate,dB];first|exact G|(rw[show V (p:Int)=V 0 from X,X];exact G))
      have aj:=bl.o.step ac (by have:=au.o.lx;omega) (fun k hk=>by have:=au.o.lv_ k hk;omega);have A:=hide (aQ an (aQ aj (bu.o.trans (ac.mono (fun k hk=> .inr (.inr hk))))));clear G al bs ac an aj;go_wp2_with fail;exact⟨⟨j+1,by omega,by go_num,A.o⟩,by simp[intOf];omega⟩
     ·obtain rfl:j=tm:=by omega
      have A:=hide (show ES res w x base C lb b s row _ _ wr by
       rw[f.o,aB W];exact⟨S,ab,rfl,D⟩)
      subst ai;clear D S ab;go_wp2_with fail;go_ret;first|exact⟨_,_,rfl,A.o⟩|exact⟨_,rfl,_,A.o⟩
 all_goals
  obtain⟨_,a,ha,ah⟩:=ay;have he:s1.err≠0:=by first|(rw[ah,oU hrs];simp)|(rw[ah];simp)
  have hy:=bb he;subst hy;have A:=hide (show ES res w x base C lb b s row (.slice la row.length lc) s1 w1 by
   rw[ax.o];unfold oK;rw[hrs];exact⟨N,K,⟨a,ha,ah⟩,z⟩)
  obtain⟨_,_,c2,_⟩:=N.cell;have hb:((s1.err:Int)==0)=false:=aX.2 (by omega);clear N ae K z hrs ah;go_wp2_with fail;go_loopw [2,15] (fun l i wr=>i=V 0/\∃J,J.err≠0/\ES res w x base C lb b s row l J wr) (fun _ _ _=>0);case atStart=>exact⟨rfl,_,by first|exact he|simp,A.o⟩
  case round=>
   obtain⟨rfl,J,h9,P⟩:=hrel;have hb:((J.err:Int)==0)=false:=aX.2 (by omega);obtain⟨_,_,c9,_⟩:=P.1.cell;have A:=hide P;clear P;go_wp2_with fail;go_ret;first|exact⟨_,_,rfl,A.o⟩|exact⟨_,rfl,_,A.o⟩
end Go.Proofs.YtbpahojchgpdnaaGreatDoor
