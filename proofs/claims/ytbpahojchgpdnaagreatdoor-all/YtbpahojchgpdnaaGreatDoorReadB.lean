import Derived.Test.YtbpahojchgpdnaaGreatDoorReadA
import Derived.Test.YtbpahojchgpdnaaGreatDoorGzipC
set_option maxRecDepth 20000
set_option maxHeartbeats 4000000
set_option linter.all false
namespace Go.Proofs.YtbpahojchgpdnaaGreatDoor
open Go.RowKit Go.dM Go.Maps Go.Proofs.Tryz
variable {D X d e f k n p q z:Nat} {w:aH} {lv:aK} {B out:aD}
structure RQ where
 i:Nat
 p:Nat
 z:Nat
 fl:Nat
 left:Nat
 head:Nat
 check:Nat
 size:Nat
 ls:aD
 o:aD
 nm:aD
 pre:aD
 s:GS
def np (k:Nat):Nat:=if k=0 then 1 else if k=1 then 4 else 13
def bi (k:Nat):Nat:=if k=0 then 0 else if k=1 then 2 else 10
def XQ (k:Nat):bi k<np k:=by
 unfold bi np;by_cases a:k=0
 ·rw[aA a,aA a];omega
 ·rw[aB a,aB a];by_cases b:k=1
  ·rw[aA b,aA b];omega
  ·rw[aB b,aB b];omega
def a03 (k:Nat):np k<=13:=by
 unfold np;by_cases a:k=0
 ·rw[aA a];omega
 ·rw[aB a];by_cases b:k=1
  ·rw[aA b];omega
  ·rw[aB b];omega
def ED (k:Nat)(w:aH)(X D:Nat)(q:RQ)(lv:aK):Prop:=
 if k=0 then True else if k=1 then Ms w X D q.fl q.check else rP w X D q.fl q.left q.head lv q.check q.size
def ED.step {w':aH}{q:RQ}{S:Nat->Prop}(h:ED k w X D q lv)(hs:Step S w w')(hn:k≠0->¬S X):ED k w' X D q lv:=by
 unfold ED at h|-
 by_cases a:k=0
 ·rw[aA a];trivial
 ·rw[aB a]at h|-
  by_cases b:k=1
  ·rw[aA b]at h |-;exact hs.at_ h (hn a)
  ·rw[aB b]at h |-;exact hs.at_ h (hn a)
def ED.blk {q:RQ}(h:ED k w X D q lv)(b:k≠0):∃A t,w.heap[X]? =some (.cells A t (0,0))/\(t=132\/t=137):=by
 unfold ED at h;rw[aB b]at h;by_cases a:k=1
 ·rw[aA a]at h;exact⟨_,_,h, .inl rfl⟩
 ·rw[aB a]at h;exact⟨_,_,h, .inr rfl⟩
def ad3 (k:Nat)(w0:aH)(D X:Nat)(F:Nat->aK):Prop:=
 if k=0 then F 0= .func (.func 50) #[E D] #[]else if k=1 then∀j,j<4->F j=wD X j else kV w0 X F
structure RS (k:Nat)(w0:aH)(f d D X P:Nat)(F:Nat->aK):Prop where
 kk:k<=2
 f4:4<=f
 fd:f<d
 dD:d<D
 DP:D<P
 PN:P<w0.heap.size
 X0:k=0->X=D
 XP:k≠0->D<X/\X<P
 parts:∀j,j<np k->w0.cell? (U P j)=some (F j)
 kp:ad3 k w0 D X F
structure OG (k:Nat)(w0 w:aH)(g off cap f d D X:Nat)(B:aD)(most:Nat)(q:RQ)(lv v:aK):Prop where
 old:∀a,D<a->a≠X->a<w0.heap.size->w.heap[a]? =w0.heap[a]?
 src:Go.dM.ay5 w g off (B.drop q.z)
 AA:g<f\/(w0.heap.size<=g/\∃A,w.heap[g]? =some (.cells A 5 (0,0)))
 glt:g<w.heap.size
 order:bL w
 H9:ED k w X D q lv
 lets:tQ w w0.heap.size lv q.ls
 ag1:q.ls=[]->lv= .slice none 0 0
 feed:bN w f (.slice (bE g off (B.drop q.z).length) (B.drop q.z).length cap) (q.p-8*q.z) q.z
 big:w0.heap.size<=w.heap.size
 fresh:q.i<bi k->w.heap[d]? =some (AO f most)/\v= .slice none 0 0
 inner:q.i=bi k->(w.heap[d]? =some (AO f most)/\v= .slice none 0 0/\q.s=qJ most q.p/\q.pre=[]/\q.o=[])\/∃sr:GS,dJ w d f w0.heap.size g off cap q.z (B.drop q.z) sr v/\q.s=sr.sh (8*q.z)/\sr.taken=(q.pre++q.o).length/\sr.out=q.pre++q.o/\sr.most=most/\q.p=q.s.p
 ar8:∀j,v.ownBlock=some j->w0.heap.size<=j/\j<w.heap.size/\j≠g
 behind:bi k<q.i->v= .slice none 0 0
 here:q.p<=8*B.length
 zp:8*q.z<=q.p
 dat:∃A,w.heap[d]? =some (.cells A 128 (0,0))
structure RM (k:Nat)(w0:aH)(n0:Nat)(w:aH)(g off cap f d D X P:Nat)(B:aD)(most:Nat)(q:RQ)(lv vo v:aK):Prop where
 m:OG k w0 w g off cap f d D X B most q lv v
 dec:gQ w D f d (fD P q.i (np k)) vo (eP q.nm)
 row:Taken w n0 vo q.o
def RO (D d f X:Nat)(lv v:aK)(j:Nat):Prop:=j=D\/j=d\/j=f\/j=X\/lv.ownBlock=some j\/v.ownBlock=some j
structure RD (D d f X:Nat)(w:aH)(lv v:aK)(w':aH)(lv' v':aK):Prop where
 step:Step (RO D d f X lv v) w w'
 own:∀j,lv'.ownBlock=some j\/v'.ownBlock=some j->RO D d f X lv v j\/w.heap.size<=j
def RD.refl (D d f X:Nat)(w:aH)(lv v:aK):RD D d f X w lv v w lv v:=⟨aU _ _,fun j h=> .inl (by rcases h with h|h;exact .inr (.inr (.inr (.inr (.inl h))));exact .inr (.inr (.inr (.inr (.inr h)))))⟩
def RD.ro {w':aH}{v a b:aK}(h:RD D d f X w lv v w' a b)(j:Nat)(c:RO D d f X a b j):RO D d f X lv v j\/w.heap.size<=j:=by
 rcases c with x|x|x|x|x|x
 ·exact .inl (.inl x)
 ·exact .inl (.inr (.inl x))
 ·exact .inl (.inr (.inr (.inl x)))
 ·exact .inl (.inr (.inr (.inr (.inl x))))
 ·exact h.own j (.inl x)
 ·exact h.own j (.inr x)
def RD.trans {w1 w2:aH}{v a v1 b l:aK}(h:RD D d f X w lv v w1 a v1)(c:RD D d f X w1 a v1 w2 b l):RD D d f X w lv v w2 b l:=by
 have m:=h.step.size;refine⟨h.step.trans' c.step (fun j i x=>(h.ro j x).elim id (fun y=>by omega)),fun j i=> ?_⟩;rcases c.own j i with x|x
 ·exact h.ro j x
 ·exact .inr (by omega)
def TL (k:Nat)(B:aD)(p:Nat)(o nm:aD)(e:Nat)(out:aD)(used:Nat)(name:aD):Prop:=
 if k=0 then e=0/\out=o/\p=8*used/\name=nm else if k=1 then I7 B p o e out used/\name=nm else pF B p o nm e out used name
def at5 (k:Nat)(B:aD)(s:GS)(nm:aD)(e:Nat)(out:aD)(used:Nat)(name:aD):Prop:=
 ∃n e1 o1 q1,eZ B n s e1 o1 q1/\if e1=0 then TL k B q1 o1 nm e out used name else e=e1/\out=o1/\used=0/\name=nm
def RQ.g (q:RQ):GQ:=⟨q.i,q.p,q.fl,q.left,q.head,q.check,q.size,q.ls,q.pre++q.o,q.nm⟩
def dV (k:Nat)(B:aD)(most:Nat)(q:RQ)(e:Nat)(out:aD)(used:Nat)(name:aD):Prop:=
 if q.i=bi k then at5 k B q.s q.nm e out used name
 else if k=0 then e=0/\q.p=8*used/\q.pre++q.o=out/\name=q.nm
 else if k=1 then as2 B most q.i q.p q.fl q.check (q.pre++q.o) e out used/\name=q.nm
 else nS B most q.g e out used name
def Bk (k:Nat)(B:aD)(most:Nat)(q q':RQ):Prop:=∀Y e out used name,dV k (B++Y) most q' e out used name->dV k (B++Y) most q e out used name
structure RV (k:Nat)(B:aD)(most:Nat)(q:RQ):Prop where
 bytes:iR (q.pre++q.o)
 len:(q.pre++q.o).length<=most
 ay8:k=1->q.check=dZ 1 (q.pre++q.o)
 au7:k=2->q.check=aL 0 (q.pre++q.o)/\q.size=(q.pre++q.o).length
 al8:bi k<q.i->q.p%8=0
 ag0:q.i<bi k->q.pre=[]/\q.o=[]
 ile:q.i<=np k
 sat:q.i=bi k->q.s.place≠3/\q.s.p=q.p/\q.s.out=q.pre++q.o/\q.s.most=most
 k1:k=1->1<=q.i->q.fl<256
 p0:k=1->q.i=0->q.p=0
 p2:k=2->q.i<=3->q.p=8*q.i
 k2:k=2->GV B q.g
 k01:k≠2->q.ls=[]/\q.nm=[]
 hh:q.head<4294967296
def S9 (k:Nat)(B:aD)(q:RQ):Nat:=(13-q.i)+(8*B.length-q.p)+if q.i<=bi k then 8*B.length else 0
def pG (k:Nat)(w0:aH)(n0:Nat)(g off cap f d D X P:Nat)(B:aD)(most:Nat)(q:RQ)(lv v:aK)(w:aH)(r:Ending)(w2:aH):Prop:=
  ∃ x : Nat, r = .returned (V (x : Nat)) /\
    ((x=0/\∃q' lv' vo' v',RM k w0 n0 w2 g off cap f d D X P B most q' lv' vo' v'/\(q'.i<=bi k->vo'= .slice none 0 0/\q'.o=[])/\RD D d f X w lv v w2 lv' v'/\Bk k B most q q'/\RV k B most q'/\S9 k B q'<S9 k B q/\q'.z=q.z/\q'.pre=q.pre)\/
     (x=3/\∃q' lv' vo' v',RM k w0 n0 w2 g off cap f d D X P B most q' lv' vo' v'/\RD D d f X w lv v w2 lv' v'/\Bk k B most q q'/\RV k B most q'/\dV k B most q' 3 (q'.pre++q'.o) 0 q'.nm/\q'.z=q.z/\q'.pre=q.pre/\Apart vo' v')\/
     (x≠0/\x≠3/\∃parts vo' o' nm',gQ w2 D f d parts vo' (eP nm')/\Taken w2 n0 vo' o'/\Step (RO D d f X lv v) w w2/\∀Y,dV k (B++Y) most q x (q.pre++o') 0 nm'))
end Go.Proofs.YtbpahojchgpdnaaGreatDoor
namespace Go.dM
open Go Go.RowKit Go.Proofs.YtbpahojchgpdnaaGreatDoor
variable {D X d e f k n p q z:Nat} {w:aH} {lv:aK} {B out:aD}
def G.tk (t:Nat):G->G
 | .go s=> .go { s with taken:=t }
 | .no e out=> .no e out
 | .miss=> .miss
def ZC (s:GS)(xs:aD)(p t:Nat):mM { s with taken:=t } xs p=(mM s xs p).tk t:=by
 unfold mM;by_cases h:s.out.length+xs.length<=s.most
 ·rw[aA h,aA (by exact h)];rfl
 ·rw[aB h,aB (by exact h)];rfl
def J5 (B:aD)(s:GS)(t:Nat):bM B { s with taken:=t }=(bM B s).tk t:=by
 unfold bM;rw[show({ s with taken:=t }:GS).place=s.place from rfl];by_cases o:s.place=1
 ·rw[aA o,aA o];unfold nO;rw[show({ s with taken:=t }:GS).left=s.left from rfl,show({ s with taken:=t }:GS).p=s.p from rfl];by_cases i:s.left=0
  ·rw[aA i,aA i];rfl
  ·rw[aB i,aB i];by_cases a:s.p+8<=8*B.length
   ·rw[aA a,aA a];exact ZC { s with left:=s.left-1 } _ _ t
   ·rw[aB a,aB a];rfl
 ·rw[aB o,aB o];by_cases i:s.place=2
  ·rw[aA i,aA i];unfold uF;rw[show({ s with taken:=t }:GS).ls=s.ls from rfl,show({ s with taken:=t }:GS).p=s.p from rfl,show({ s with taken:=t }:GS).out=s.out from rfl];cases lC (aI s.ls) B s.p with
   |no e=>rfl
   |miss=>rfl
   |ok c q=>
    dsimp only;by_cases a:c<256
    ·rw[aA a,aA a];exact ZC s _ _ t
    ·rw[aB a,aB a];by_cases j:c=256
     ·rw[aA j,aA j];rfl
     ·rw[aB j,aB j];unfold gCopy;cases eF B q c with
      |no e=>rfl
      |miss=>rfl
      |ok n r=>
       dsimp only;rw[show({ s with taken:=t }:GS).ld=s.ld from rfl];cases iQ (aI s.ld) B r with
       |no e=>rfl
       |miss=>rfl
       |ok m x=>
        dsimp only;by_cases b:s.out.length<m
        ·rw[aA b,aA b];rfl
        ·rw[aB b,aB b];exact ZC s _ _ t
  ·rw[aB i,aB i];unfold kL;rw[show({ s with taken:=t }:GS).p=s.p from rfl,show({ s with taken:=t }:GS).out=s.out from rfl];by_cases a:s.p+3<=8*B.length
   ·rw[aA a,aA a];by_cases j:aG B (s.p+1) 2=0
    ·rw[aA j,aA j];by_cases b:(s.p+3+7)/8*8+32<=8*B.length
     ·rw[aA b,aA b];by_cases l:aG B ((s.p+3+7)/8*8+16) 16=65535-aG B ((s.p+3+7)/8*8) 16
      ·rw[aA l,aA l];rfl
      ·rw[aB l,aB l];rfl
     ·rw[aB b,aB b];rfl
    ·rw[aB j,aB j];by_cases b:aG B (s.p+1) 2=1
     ·rw[aA b,aA b];rfl
     ·rw[aB b,aB b];by_cases l:aG B (s.p+1) 2=2
      ·rw[aA l,aA l];cases bW B (s.p+3)with
       |no e=>rfl
       |miss=>rfl
       |ok u q=>rfl
      ·rw[aB l,aB l];rfl
   ·rw[aB a,aB a];rfl
def al3 {s:GS}(t:Nat)(h:eZ B n s e out q):eZ B n { s with taken:=t } e out q:=by
 induction h with
 |done s h=>exact .done { s with taken:=t } h
 |no s e out a h=>exact .no { s with taken:=t } e out a (by rw[J5,h];rfl)
 |miss s a h=>exact .miss { s with taken:=t } a (by rw[J5,h];rfl)
 |go n s b e out q a h k ih=>exact .go n { s with taken:=t } _ e out q a (by rw[J5,h];rfl) ih
def SQ (B Y:aD):qH (B++Y) B 0:=by have h:=qH.part [] B Y;simpa using h
def Tg (B Y:aD)(a:z<=B.length):qH (B++Y) (B.drop z) (8*z):=by have h:=qH.part (B.take z) (B.drop z) Y;rw[<-dB,pJ,dF,vV a]at h;exact h
def Ho (Y:aD){s:GS}(h:eZ B n s e out q)(b:e≠3):eZ (B++Y) n s e out q:=by
 induction h with
 |done s h=>exact .done s h
 |no s e out a h=>
  refine .no s e out a ?_;rcases FN (SQ B Y) s with x|x
  ·rw[h]at x;cases x
  ·rw[h]at x;exact x
 |miss s a h=>exact absurd rfl b
 |go n s c e out q a h k ih=>
  refine .go n s c e out q a ?_ (ih b);rcases FN (SQ B Y) s with x|x
  ·rw[h]at x;cases x
  ·rw[h]at x;exact x
def gZ (Y:aD)(h:p+n<=8*B.length):aG (B++Y) p n=aG B p n:=(SQ B Y).num h
def Xa (B:aD)(z p:Nat):bK (B.drop z) p=bK B (p+8*z):=by unfold bK;rw[kM,show(p+8*z)/8=z+p/8 by omega,show(p+8*z)%8=p%8 by omega]
def Dl (B:aD)(z:Nat):∀n p,aG (B.drop z) p n=aG B (p+8*z) n:=by
 intro n;induction n with
 |zero=>intro p;rfl
 |succ n ih=>intro p;rw[aG,aG,ih,Xa,show p+n+8*z=p+8*z+n by omega]
def gN (B:aD)(n:Nat)(h:8*z<=p):aG (B.drop z) (p-8*z) n=aG B p n:=by rw[Dl,Nat.sub_add_cancel h]
def Nr {s s':GS}(h:rF B n s s')(b:s.out.length<=s.most):s'.most=s.most/\s'.out.length<=s.most:=by
 induction h with
 |here s i h=>exact⟨rfl,b⟩
 |go n s m o i h k ih=>
  obtain⟨c,a⟩:=(FB b).1 _ h;obtain⟨j,l⟩:=ih c;exact⟨j.trans a,by rw[<-a];exact l⟩
end Go.dM
namespace Go.Proofs.YtbpahojchgpdnaaGreatDoor
open Go.RowKit Go.dM Go.Maps Go.Proofs.Tryz
variable {D X d e f k n p q z:Nat} {w:aH} {lv:aK} {B out:aD}
def VA (p:Nat×Nat)(xs ys:aD):eH p (xs++ys)=eH (eH p xs) ys:=by simp[eH]
def WC (s:Nat)(hs:s<4294967296)(xs ys:aD):dZ s (xs++ys)=dZ (dZ s xs) ys:=by
 have h:=E8 (s%65536,s/65536) (by show s%65536<_;omega) (by show s/65536<_;omega) xs;unfold dZ;rw[VA];have a:(65536*(eH (s%65536,s/65536) xs).2+(eH (s%65536,s/65536) xs).1)%65536=(eH (s%65536,s/65536) xs).1:=by omega
 have b:(65536*(eH (s%65536,s/65536) xs).2+(eH (s%65536,s/65536) xs).1)/65536=(eH (s%65536,s/65536) xs).2:=by omega
 rw[a,b]
def Ke {s b:GS}(j:KC s b)(k t:Nat)(i:s.place≠3)(h:eZ B n (({ b with taken:=t }:GS).sh k) e out q):eZ B n (s.sh k) e out q:=by
 obtain⟨l,c,rfl⟩:=j;have a:=al3 s.taken h;by_cases hp:s.place=1\/s.place=2
 ·rw[c hp]at a;exact a
 ·exact Tn (s:=({ s with last:=l }:GS).sh k) s.last (fun x=>hp (.inl x)) (fun x=>hp (.inr x)) i a
def Gi {s b:GS}(j:KC s b)(k t:Nat)(h:Go.dM.bM B (s.sh k)= .miss):Go.dM.bM B (({ b with taken:=t }:GS).sh k)= .miss:=by
 obtain⟨l,c,rfl⟩:=j;have a:=J5 B (({ s with last:=l }:GS).sh k) t;by_cases hp:s.place=1\/s.place=2
 ·rw[c hp]at a|-
  exact a.trans (by show(Go.dM.bM B (s.sh k)).tk t= .miss;rw[h];rfl)
 ·have i:=RU (B:=B) (s:=s.sh k) l (fun x=>hp (.inl x)) (fun x=>hp (.inr x));refine a.trans ?_;rw[show({ s with last:=l }:GS).sh k={ s.sh k with last:=l } from rfl,i,h];rfl
def Gn (k nb f d D X P:Nat)(s:aK)(Bd:aD)(N0:Nat)(q q':RQ)(thr:Bool)(x:Nat)(lv vo:aK)(w1:aH):Ending->aH->Prop:=
 jY nb (q.p-8*q.z) Bd f s q.z w1 fun r w'=>r= .returned (.tuple #[.bool thr,V (x:Nat)])/\∃lv',ED k w' X D q' lv'/\tQ w' N0 lv' q'.ls/\(∀j,lv'.ownBlock=some j->lv.ownBlock=some j\/w1.heap.size<=j)/\gQ w' D f d (fD P q.i (np k)) vo (eP q'.nm)/\(q'.ls=[]->lv'= .slice none 0 0)/\Step (GS' f X D lv) w1 w'
variable {k:Nat} {w0 w:aH} {n0 g off cap f d D X P:Nat} {F:Nat->aK} {B:aD} {most:Nat} {q:RQ} {lv vo v:aK}
def OG.lvk (h:OG k w0 w g off cap f d D X B most q lv v){j:Nat}(c:lv.ownBlock=some j)(a:RS k w0 f d D X P F):w0.heap.size<=j/\j<w.heap.size/\j≠g:=by
 have b:=h.lets.lt j c;have:=a.fd;have:=a.dD;have:=a.DP;have:=a.PN;refine⟨b.1,b.2,fun e=> ?_⟩;rcases h.AA with x|⟨_,A,x⟩
 ·omega
 ·exact xM h.lets x (by decide) (by rw[c,e])
def pO (S:RS k w0 f d D X P F)(h:RM k w0 n0 w g off cap f d D X P B most q lv vo v)(ai:q.i<bi k->vo= .slice none 0 0)(hv:RV k B most q)(hi:q.i<np k)(ap:q.i≠bi k){q':RQ}(J id:Nat)(G C:Array aK)(hF:F q.i= .func (.func id) G C)(an:∀w,(callFunc id (G++C)).run prog w= .ok (.enter id (G++C)) w)(thr:Bool)(x:Nat)(hc:∀w1,O w w1->Calls prog id (G++C) w1 (Gn k J f d D X P (.slice (bE g off (B.drop q.z).length) (B.drop q.z).length cap) (B.drop q.z) w0.heap.size q q' thr x lv vo w1))(ei:q'.i=if thr then q.i+1 else q.i)(ep:q'.p=q.p+J)(eo:q'.o=q.o)(ay7:q'.pre=q.pre)(ez:q'.z=q.z)(es:q'.s=qJ most q'.p)(ag:thr=true\/0<J)(au:q.p+J<=8*B.length->(x=0/\RV k B most q'/\Bk k B most q q')\/(x≠0/\x≠3/\∀Y,dV k (B++Y) most q x (q.pre++q.o) 0 q'.nm))(T:8*B.length<q.p+J->dV k B most q 3 (q.pre++q.o) 0 q.nm):ZW f D w (pG k w0 n0 g off cap f d D X P B most q lv v w):=by
 have l:=h.m;have c1:=S.f4;have c2:=S.fd;have c3:=S.dD;have c4:=S.DP;have c5:=S.PN;have ad:k≠0:=fun e=>by
  subst e;have e1:np 0=1:=rfl;have e2:bi 0=0:=rfl;omega
 obtain⟨c6,c7⟩:=S.XP ad;have ba:=XQ k;have be:=a03 k;have hb:=l.big;have u:∀j,lv.ownBlock=some j->w0.heap.size<=j/\j<w.heap.size/\j≠g:=fun j c=>l.lvk c S;have hd:=h.dec;have bb:=aO hd;rw[nU hi]at hd;have L:v= .slice none 0 0:=by
  by_cases y:q.i<bi k
  ·exact(l.fresh y).2
  ·exact l.behind (by omega)
 have N:g≠f/\g≠D/\g≠X/\g<w.heap.size:=⟨by rcases l.AA with y|y<;>omega,by rcases l.AA with y|y<;>omega,by rcases l.AA with y|y<;>omega,l.glt⟩
 have ak:=l.H9.blk ad;have af:bi k<q.i->q.ls=[]:=fun y=>by
  by_cases ae:k=2
  ·subst ae;exact(hv.k2 rfl).ls (by have e2:bi 2=10:=rfl;show q.i≠7;omega)
  ·exact(hv.k01 ae).1
 have aj:∀j,vo.ownBlock=some j->j≠D/\j≠f/\j≠X/\lv.ownBlock≠some j/\j<w.heap.size:=by
  intro j c;refine⟨fun e=>kR h.row h.dec (by decide) (by rw[c,e]),fun e=>kR h.row l.feed (by decide) (by rw[c,e]),fun e=> ?_,fun e=> ?_,(h.row.lt j c).2⟩
  ·obtain⟨A,t,al,ht⟩:=ak;exact kR h.row al (by rcases ht with rfl|rfl<;>decide) (by rw[c,e])
  ·by_cases y:q.i<bi k
   ·rw[ai y]at c;cases c
   ·rw[l.ag1 (af (by omega))]at e;cases e
 have bc:(B.drop q.z).length=B.length-q.z:=dX;have bf:=l.zp;have ao:=l.here;have ab:∀w2,Step (fun j=>j=D\/GS' f X D lv j\/j=w.heap.size+1) w w2->(∀a,D<a->a≠X->a<w0.heap.size->w2.heap[a]? =w0.heap[a]?)/\Go.dM.ay5 w2 g off (B.drop q.z)/\(g<f\/(w0.heap.size<=g/\∃A,w2.heap[g]? =some (.cells A 5 (0,0))))/\g<w2.heap.size/\bL w2/\w0.heap.size<=w2.heap.size/\Taken w2 n0 vo q.o/\(∀o,w.heap[d]? =some o->w2.heap[d]? =some o)/\Step (RO D d f X lv v) w w2:=fun w2 hs=>by
  have hz:=hs.size;have ac:¬(g=D\/GS' f X D lv g\/g=w.heap.size+1):=fun y=>by
   rcases y with y|(y|y|y|y)|y
   ·exact N.2.1 y
   ·exact N.1 y
   ·exact N.2.2.1 y
   ·exact N.2.1 y
   ·exact(u g y).2.2 rfl
   ·omega
  refine⟨fun a a1 a2 a3=> ?_,l.src.step hs ac,?_,by omega,l.order.step hs (fun j c y=> ?_),by omega,fJ h.row hs (fun j c y=> ?_),fun o y=>hs.at_ y (fun z=> ?_),⟨hs.os,hs.tape,hs.output,hs.size,fun j c y=>hs.block j c (fun z=>y ?_)⟩⟩
  ·rw[<-l.old a a1 a2 a3];refine hs.block a (by omega) (fun y=> ?_);rcases y with y|(y|y|y|y)|y
   ·omega
   ·omega
   ·exact a2 y
   ·omega
   ·have:=u a y;omega
   ·omega
  ·rcases l.AA with y|⟨y,A,z⟩
   ·exact .inl y
   ·exact .inr ⟨y,A,hs.at_ z ac⟩
  ·rcases y with y|(y|y|y|y)|y
   ·omega
   ·omega
   ·omega
   ·omega
   ·have:=u j y;omega
   ·omega
  ·obtain⟨a1,a2,a3,a4,a5⟩:=aj j c;rcases y with y|(y|y|y|y)|y
   ·exact a1 y
   ·exact a2 y
   ·exact a3 y
   ·exact a1 y
   ·exact a4 y
   ·omega
  ·rcases z with y|(y|y|y|y)|y
   ·omega
   ·omega
   ·omega
   ·omega
   ·have:=u d y;omega
   ·omega
  ·rcases z with z|(z|z|z|z)|z
   ·exact .inl z
   ·exact .inr (.inr (.inl z))
   ·exact .inr (.inr (.inr (.inl z)))
   ·exact .inl z
   ·exact .inr (.inr (.inr (.inr (.inl z))))
   ·omega
 have Q:w.cell? ⟨P,q.i,none⟩=some (.func (.func id) G C):=by
  rw[<-hF];exact(vF (a:=⟨P,q.i,none⟩) (l.old P c4 (by omega) c5)).trans (S.parts q.i hi)
 refine(Fu D f d P q.i (np k-q.i-1) (q.p-8*q.z) id G C (.slice (bE g off (B.drop q.z).length) (B.drop q.z).length cap) vo q.z (eP q.nm) (GS' f X D lv)
  (fun t y w'=>q.p+J<=8*B.length/\t=thr/\y=x/\bN w' f (.slice (bE g off (B.drop q.z).length) (B.drop q.z).length cap) (q.p+J-8*q.z) q.z/\∃H,ED k w' X D q' H/\tQ w' w0.heap.size H q'.ls/\(∀j,H.ownBlock=some j->lv.ownBlock=some j\/w.heap.size+3<=j)/\gQ w' D f d (fD P q.i (np k)) vo (eP q'.nm)/\(q'.ls=[]->H= .slice none 0 0))
  (fun w'=>8*B.length<q.p+J/\gQ w' D f d (fD P q.i (np k)) vo (eP q.nm)/\ED k w' X D q lv/\tQ w' w0.heap.size lv q.ls)
  w an hd Q (by omega) l.feed (fun j y=>by
   rcases y with y|y|y|y
   ·omega
   ·omega
   ·omega
   ·exact(u j y).2.1) (by omega) ?_).mono ?_
 ·intro w1 R ah;apply(hc w1 R).mono;rintro r w' (⟨k1,k2,rfl,H,M,W,k5,k6,k7,k8⟩|⟨k1,rfl,k2,M⟩)
  ·refine⟨k8,⟨_,k2⟩,⟨vo,_,by rw[<-nU hi];exact k6⟩, .inl ⟨thr,x,rfl,by omega,rfl,rfl,?_,H,M,W,by rw[<-ah];exact k5,k6,k7⟩⟩;rw[show q.p+J-8*q.z=q.p-8*q.z+J by omega];exact k2
  ·have W:gQ w' D f d (fD P q.i (np k)) vo (eP q.nm):=M.at_ (R.at_ h.dec (fun y=>y)) (by omega);exact⟨M.mono (fun j y=> .inl y),⟨_,k2⟩,⟨vo,_,by rw[<-nU hi];exact W⟩, .inr ⟨rfl,⟨by omega,W,(l.H9.step R (fun _ y=>y)).step M (fun _ y=>by omega),kH (kH l.lets R (fun _ _ y=>y)) M (fun j c y=>by have:=u j c;omega)⟩⟩⟩
 ·intro r w2 hw;have av:=Od hw (.inl rfl);obtain⟨e1,e2,e3,e4,e5,e6,e7,e8,e9⟩:=ab w2 av;obtain⟨w1,w',Z,bg,s1,z1,s2,d1,⟨t,y,rfl,⟨k1,rfl,rfl,k2,H,M,W,k5,k6,k7⟩,d2,d3⟩|⟨rfl,⟨k0,k1,k2,M⟩,d2,d3,d4⟩⟩:=hw.ex
  ·rw[<-nU hi]at d1;obtain⟨rfl,rfl⟩:=Bp d1 k6;have z2:=s1.size;have ar:∀j,H.ownBlock=some j->j≠D/\j≠w.heap.size+1:=fun j c=>by
    have:=(W.lt j c).1;rcases k5 j c with y|y
    ·have:=u j y;omega
    ·omega
   have K:gQ w2 D f d (fD P q'.i (np k)) Z (eP q'.nm):=by
    rw[ei];rw[<-nU hi,yQ hi]at d2;cases t with
    |true=>exact d2
    |false=>exact d2
   rcases au k1 with⟨hx,aw,am⟩|⟨hx,ax,aa⟩
   ·refine⟨y,rfl, .inl ⟨hx,q',H,Z, .slice none 0 0,⟨⟨e1,by rw[ez];exact e2,e3,e4,e5,M.step d3 (fun _ z=>by rcases z with z|z<;>omega),kH W d3 (fun j c z=>by
      have:=ar j c;rcases z with z|z
      ·exact this.1 z
      ·exact this.2 z),k7,?_,e6,fun z=> ?_,fun z=> ?_,fun j c=>(by simp[Value.ownBlock]at c),fun _=>rfl,by omega,by rw[ez];omega,l.dat.imp fun A y=>e8 _ y⟩,K,by rw[eo];exact e7⟩,fun z=> ?_,⟨e9,fun j c=> ?_⟩,am,aw,?_,ez,ay7⟩⟩
    ·rw[ez,ep];exact d3.at_ k2 (fun z=>by rcases z with z|z<;>omega)
    ·have I:q.i<bi k:=(by rw[ei]at z;cases t<;>simp at z<;>omega);exact⟨e8 _ (l.fresh I).1,rfl⟩
    ·have I:q.i<bi k:=(by rw[ei]at z;cases t<;>simp at z<;>omega);exact .inl ⟨e8 _ (l.fresh I).1,rfl,es,by rw[ay7];exact(hv.ag0 I).1,by rw[eo];exact(hv.ag0 I).2⟩
    ·have I:q.i<bi k:=(by rw[ei]at z;cases t<;>simp at z<;>omega);exact⟨ai I,by rw[eo];exact(hv.ag0 I).2⟩
    ·rcases c with c|c
     ·rcases k5 j c with z|z
      ·exact .inl (.inr (.inr (.inr (.inr (.inl z)))))
      ·exact .inr (by omega)
     ·simp[Value.ownBlock]at c
    ·unfold S9;rw[ei,ep];have aq:∀a b:Nat,a<=b->(if b<=bi k then 8*B.length else 0)<=(if a<=bi k then 8*B.length else 0):=fun a b az=>by
      by_cases z:b<=bi k
      ·rw[aA z,aA (by omega)];exact aS _
      ·rw[aB z];exact iZ _
     have ay:=aq q.i (q.i+1) (by omega);cases t with
     |true=>show 13-(q.i+1)+(8*B.length-(q.p+J))+(if q.i+1<=bi k then 8*B.length else 0)<_;omega
     |false=>
      rcases ag with z|z
      ·cases z
      ·show 13-q.i+(8*B.length-(q.p+J))+(if q.i<=bi k then 8*B.length else 0)<_;omega
   ·exact⟨y,rfl, .inr (.inr ⟨hx,ax,_,Z,q.o,q'.nm,K,e7,e9,aa⟩)⟩
  ·refine⟨3,rfl, .inr (.inl ⟨rfl,q,lv,vo,v,⟨⟨e1,e2,e3,e4,e5,k2.step d4 (fun _ z=>by rcases z with z|z<;>omega),kH M d4 (fun j c z=>by
     have:=u j c;rcases z with z|z<;>omega),l.ag1,d3,e6,fun z=>⟨e8 _ (l.fresh z).1,(l.fresh z).2⟩,fun z=>absurd z ap,fun j c=>(by rw[L]at c;simp[Value.ownBlock]at c),l.behind,l.here,l.zp,l.dat.imp fun A y=>e8 _ y⟩,d4.at_ k1 (fun z=>by rcases z with z|z<;>omega),e7⟩,⟨e9,fun j c=> .inl ?_⟩,fun _ _ _ _ _ z=>z,hv,T k0,rfl,rfl,fun j _ c=>by rw[L]at c;simp[Value.ownBlock]at c⟩)⟩
   rcases c with c|c
   ·exact .inr (.inr (.inr (.inr (.inl c))))
   ·exact .inr (.inr (.inr (.inr (.inr c))))
structure am6 (D f d P i n:Nat)(S:Nat->Prop)(Q:Bool->Nat->aH->Prop)(w:aH)(r:Ending)(w2:aH):Prop where
 ex:∃w1 w' vo nm A,O w w1/\w1.heap.size=w.heap.size+3/\Step S w1 w'/\gQ w' D f d (tX P i (n+1)) vo nm/\w'.heap[w.heap.size+1]? =some (.cells A 43 (0,0))/\
  ∃(thr:Bool) (e:Nat),r= .returned (V (e:Nat))/\Q thr e w'/\w2=(if thr then w'.setCell (U D 2) (uJ P i n)else w').setCell ⟨w.heap.size+1,0,none⟩ (V (e:Nat))
def Ec (D f d P i n p H:Nat)(b a:Array aK)(s vo:aK)(z:Nat)(nm:bY)(S:Nat->Prop)(Q:Bool->Nat->aH->Prop)(w:aH)(K:∀w,(callFunc H (b++a)).run prog w= .ok (.enter H (b++a)) w)(R:gQ w D f d (tX P i (n+1)) vo nm)(hP:w.cell? (U P i)=some (.func (.func H) b a))(hn:n<=100)(T:bN w f s p z)(W:∀k,S k->k<w.heap.size)(M:f≠D)(hc:∀w1,O w w1->w1.heap.size=w.heap.size+3->Calls prog H (b++a) w1 fun r w'=>Zy D f d P i n s z S Q (fun _=>False) w1 r w'):ZW f D w fun r w2=>am6 D f d P i n S Q w r w2:=by
 have Z:=aO R;have aa:=aO T;refine(SV (z:=z) f D p s w (fun w1 r w2=>PZ D f d P i n s z S Q (fun _=>False) w1 r w2/\w1.heap[w.heap.size+1]? =some (.cells #[V 0] 43 (0,0))) T ?_ ?_).mono ?_
 ·intro w1 hs l j;apply(UZ D f d P i n H b a s vo z nm S Q (fun _=>False) w1 K (hs.at_ R (fun x=>x)) (hs.cell hP (fun x=>x)) hn (hc w1 hs l)).mono;intro r w2 h;obtain⟨w',u,t,m,A,J,⟨thr,e,rfl,_⟩|⟨rfl,_⟩⟩:=h.ex
  ·exact⟨.inl ⟨e,rfl⟩,h,j⟩
  ·exact⟨.inr rfl,h,j⟩
 ·rintro w1 r w2 hs l ⟨h,_⟩;obtain⟨w',u,t,m,⟨q,A⟩,J,I⟩:=h.ex;have o:Step (fun k=>S k\/k=D) w1 w2:=by
   rcases I with⟨thr,e,_,_,rfl⟩|⟨_,_,rfl⟩
   ·cases thr with
    |true=>exact(m.mono (fun k x=> .inl x)).setCell (p:=(U D 2)) (.inr rfl) _
    |false=>exact m.mono (fun k x=> .inl x)
   ·exact m.mono (fun k x=> .inl x)
  have c:∀k,w.heap.size<=k->¬(S k\/k=D):=fun k hk x=>by
   rcases x with x|x
   ·have:=W k x;omega
   ·omega
  have L:bN w2 f s q z:=by
   rcases I with⟨thr,e,_,_,rfl⟩|⟨_,_,rfl⟩
   ·cases thr with
    |true=>exact((aU (·=D) w').setCell (p:=(U D 2)) rfl _).at_ A (fun x=>M x)
    |false=>exact A
   ·exact A
  exact⟨o.block _ (by omega) (c _ (by omega)),o.block _ (by omega) (c _ (by omega)),o.block _ (by omega) (c _ (by omega)),q,L⟩
 ·rintro r w2 ⟨w1,e1,w3,hs,l,⟨h,j⟩,C⟩;obtain⟨w',u,t,m,⟨q,A⟩,J,I⟩:=h.ex;rcases I with⟨thr,e,Y,hq,rfl⟩|⟨_,hf,_⟩
  ·rcases C with⟨y,G,rfl,rfl⟩|⟨G,_⟩
   ·rw[Y]at G;have N:e=y:=by
     simp only[Ending.returned.injEq,Value.int.injEq,true_and]at G;omega
    subst N;exact⟨⟨w1,w',u,t,_,hs,l,m,J,m.at_ j (fun x=>by have:=W _ x;omega),thr,e,rfl,hq,rfl⟩⟩
   ·rw[Y]at G;cases G
  ·exact hf.elim
def Li {base g off cap most:Nat}(i:Go.dM.ay5 w g off B)(c:bL w)(t:most<=1048576)(r:g≠f)(o:g≠d)(s:g<w.heap.size)(l:4<=f)(m:f<d)(j:d<base)(u:base<=w.heap.size)(hp:p<=8*B.length)(b:bN w f (.slice (bE g off B.length) B.length cap) p z)(a:w.heap[d]? =some (AO f most)):dJ w d f base g off cap z B (qJ most p) (.slice none 0 0):=by refine⟨⟨⟨.slice none 0 0,[],0,most,0,false,0, .map none,0, .map none,0, .pointer none⟩,rfl,⟨⟨a,jJ _ _ _ _,by omega,by omega,by omega,by omega⟩,b,i,⟨by omega,by omega,by simp[Value.ownBlock]⟩,by omega⟩,⟨⟨[],rfl, .inl rfl⟩,rfl,aS _⟩,rfl,rfl,rfl,rfl,⟨_,rfl⟩,⟨_,rfl⟩, .inl rfl,fun h=>by simp[qJ,rQ]at h⟩,c,⟨by omega,by omega⟩,by omega,t,by simp[qJ,rQ],by simp[qJ,rQ],by simpa[qJ]using hp⟩
variable {k:Nat} {w0 w:aH} {n0 g off cap f d D X P:Nat} {F:Nat->aK} {B:aD} {most:Nat} {q:RQ} {lv vo v:aK}
def RQ.CK (k:Nat)(q:RQ)(ys:aD):RQ:={ q with check:=if k=1 then dZ q.check ys else aL q.check ys,size:=q.size+ys.length,o:=ys }
def OG.holds (c:RS k w0 f d D X P F)(h:OG k w0 w g off cap f d D X B most q lv v)(hi:q.i=bi k)(x:q.o=[])(u:most<=1048576):∃sr:GS,dJ w d f w0.heap.size g off cap q.z (B.drop q.z) sr v/\q.s=sr.sh (8*q.z)/\sr.taken=q.pre.length/\sr.out=q.pre/\sr.most=most/\q.p=q.s.p:=by
 have c1:=c.f4;have c2:=c.fd;have c3:=c.dD;have c4:=c.DP;have A:=c.PN;have C:=h.zp;have hh:=h.here;have t:(B.drop q.z).length=B.length-q.z:=dX;rcases h.inner hi with⟨j,rfl,a,b,l⟩|⟨sr,j,m,a,b,l,r⟩
 ·refine⟨qJ most (q.p-8*q.z),Li h.src h.order u (by rcases h.AA with y|y<;>omega) (by rcases h.AA with y|y<;>omega) h.glt c1 c2 (by omega) h.big (by omega) h.feed j,?_,by rw[b];rfl,by rw[b];rfl,rfl,by rw[a];rfl⟩;rw[a];unfold qJ GS.sh;simp only;congr 1;omega
 ·rw[x,bG]at a b;exact⟨sr,j,m,a,b,l,r⟩
def Xh (args:Array aK)(w:aH):(callFunc 50 args).run prog w= .ok (.enter 50 args) w:=by kernel_rfl
def Ti (m:RS k w0 f d D X P F)(h:OG k w0 w g off cap f d D X B most q lv v)(hd:gQ w D f d (fD P q.i (np k)) (.slice none 0 0) (eP q.nm))(H:RV k B most q)(hi:q.i=bi k)(ho:q.o=[])(hm:most<=1048576){sr:GS}(hH:dJ w d f w0.heap.size g off cap q.z (B.drop q.z) sr v)(e1:q.s=sr.sh (8*q.z))(e4:sr.out=q.pre)(e5:sr.most=most):∃M first c,F q.i= .func (.func M) first c/\(∀w,(callFunc M (first++c)).run prog w= .ok (.enter M (first++c)) w)/\∀w1,O w w1->Calls prog M (first++c) w1 fun r w'=>∃(e:Nat) (vo:aK) (ys:aD),r= .returned (.tuple #[.bool (e==0),V (e:Nat)])/\gQ w' D f d (fD P q.i (np k)) vo (eP q.nm)/\Taken w' w1.heap.size vo ys/\Step (fun j=>(j=D\/j=d\/j=f\/v.ownBlock=some j)\/j=X) w1 w'/\ED k w' X D (q.CK k ys) lv/\iR ys/\ys.length<=most/\rZ d f w0.heap.size g off cap q.z (B.drop q.z) sr v w1.heap.size e vo ys w':=by
 have c1:=m.f4;have c2:=m.fd;have c3:=m.dD;have c4:=m.DP;have c5:=m.PN;have u:=H.bytes;have t:=H.len;rw[ho,bG]at u t;obtain⟨l,_⟩:=H.sat hi;have l:sr.place≠3:=by rw[e1]at l;exact l
 have S:tK d f v D:=⟨by omega,by omega,fun y=>by have:=h.ar8 D y;omega⟩
 have W:g≠D:=by rcases h.AA with y|y<;>omega
 have R:∀w1,O w w1->Calls prog 50 #[E D] w1 fun r w'=>∃(e:Nat) (vo:aK) (ys:aD),r= .returned (.tuple #[.bool (e==0),V (e:Nat)])/\gQ w' D f d (fD P q.i (np k)) vo (eP q.nm)/\Taken w' w1.heap.size vo ys/\Step (fun j=>j=D\/j=d\/j=f\/v.ownBlock=some j) w1 w'/\iR ys/\ys.length<=1048576/\(ys.length<=most/\iR ys/\rZ d f w0.heap.size g off cap q.z (B.drop q.z) sr v w1.heap.size e vo ys w'):=fun w1 a=>by
  apply(aA9 D d f w0.heap.size g off cap q.z _ _ _ sr v w1 (a.at_ hd (fun x=>x)) S (by omega) (by omega) W (hH.step0 a)).mono;rintro r w' ⟨e,vo,ys,rfl,a1,a2,J,G⟩;obtain⟨b1,b2⟩:=G.bytes (by rw[e4];exact u) (fun x=>absurd x l) (by rw[e4,e5];exact t);rw[e5]at b2;exact⟨e,vo,ys,rfl,a1,a2,J,b1,by omega,b2,b1,G⟩
 have b:=m.kp;unfold ad3 at b;by_cases N:k=0
 ·subst N;rw[aA rfl]at b;refine⟨50,#[E D],#[],by rw[hi];exact b,Xh _,fun w1 a=>(R w1 a).mono ?_⟩;rintro r w' ⟨e,vo,ys,rfl,a1,a2,J,G,Z,Q,a7,a8⟩;exact⟨e,vo,ys,rfl,a1,a2,J.mono (fun j x=> .inl x),bT,G,Q,a8⟩
 ·rw[aB N]at b;obtain⟨c6,c7⟩:=m.XP N;have K:¬(X=D\/X=d\/X=f\/v.ownBlock=some X):=fun y=>by
   rcases y with y|y|y|y
   ·omega
   ·omega
   ·omega
   ·have:=h.ar8 X y;omega
  have L:g≠X:=by rcases h.AA with y|y<;>omega
  have I:=h.H9;unfold ED at I;rw[aB N]at I;by_cases k1:k=1;focus
   subst k1;rw[aA rfl]at b I;refine⟨77,#[E X],#[],by rw[hi];exact b 2 (by omega),ao3 _,fun w1 a=> ?_⟩;refine(at7 X D d f q.fl q.check _ _ w1 _ (fun e vo ys w'=>ys.length<=most/\iR ys/\rZ d f w0.heap.size g off cap q.z (B.drop q.z) sr v w1.heap.size e vo ys w') (a.at_ I (fun x=>x)) K (by omega) (by rw[H.ay8 rfl];exact vB 1 (by omega) _) (fun e vo ys w2 w3 A T C hk=>⟨hk.1,hk.2.1,hk.2.2.other C T (by decide) (by decide) (by decide) (by decide) L (by omega)⟩) (R w1 a)).mono ?_
  rotate_left;focus
   rw[aB k1]at b I;have Y:k=2:=(by have:=m.kk;omega);subst Y;refine⟨87,#[E X],#[],by rw[hi];exact b.p10,a01 _,fun w1 a=> ?_⟩;refine(ay2 X D d f q.fl q.left q.head q.check q.size lv _ _ w1 _ (fun e vo ys w'=>ys.length<=most/\iR ys/\rZ d f w0.heap.size g off cap q.z (B.drop q.z) sr v w1.heap.size e vo ys w') (a.at_ I (fun x=>x)) K (by omega) (by rw[(H.au7 rfl).1];exact iW _ _) (by rw[(H.au7 rfl).2,ho,bG];omega) (fun e vo ys w2 w3 A T C hk=>⟨hk.1,hk.2.1,hk.2.2.other C T (by decide) (by decide) (by decide) (by decide) L (by omega)⟩) (R w1 a)).mono ?_
  all_goals
   rintro r w' ⟨e,vo,ys,rfl,a1,a2,J,G,Z,Q,a7⟩;exact⟨e,vo,ys,rfl,a1,a2,J,G,Q,Z,a7⟩
variable {k:Nat} {w0 w:aH} {n0 g off cap f d D X P:Nat} {F:Nat->aK} {B:aD} {most:Nat} {q:RQ} {lv vo v:aK}
def Sy {most:Nat}{q:RQ}(hk:k<=2)(hi:q.i=bi k+1){used:Nat}{name:aD}(h:dV k B most q e out used name):TL k B q.p (q.pre++q.o) q.nm e out used name:=by
 unfold dV at h;rw[aB (by omega)]at h;unfold TL;by_cases a:k=0
 ·subst a;rw[aA rfl]at h|-
  exact⟨h.1,h.2.2.1.symm,h.2.1,h.2.2.2⟩
 ·rw[aB a]at h|-
  by_cases k1:k=1
  ·subst k1;rw[aA rfl]at h|-
   have e3:q.i=3:=hi;rw[e3]at h;exact⟨h.1.2.2,h.2⟩
  ·rw[aB k1]at h|-
   have k2:k=2:=(by omega);subst k2;have e3:q.g.i=11:=hi;unfold nS at h;rw[e3]at h;exact h.2.2.2
def NA {pre:aD}(h:pre <+:out):pre++out.drop pre.length=out:=by obtain⟨t,rfl⟩:=h;rw[List.drop_left]
def RV.CK (b:RV k B most q)(l:q.o=[])(ys:aD)(C:(q.pre++ys).length<=most)(G:iR ys)(a m:Nat)(s':GS)(hi:q.i=bi k)(A:bi k<=a/\a<=bi k+1)(t:bi k<a->m%8=0)(hs:a=bi k->s'.place≠3/\s'.p=m/\s'.out=q.pre++ys/\s'.most=most):RV k B most { q.CK k ys with i:=a,p:=m,s:=s' }:=by
 have r:=b.bytes;have x:=XQ k;rw[l,bG]at r;refine⟨r.append G,C,fun e=> ?_,fun e=> ?_,t,fun y=>by have y:a<bi k:=y;omega,by show a<=np k;omega,hs,fun e y=>b.k1 e (by subst e;have:bi 1=2:=rfl;omega),fun e y=>by
  subst e;have:bi 1=2:=rfl;have y:a=0:=y;omega,fun e y=>by
  subst e;have:bi 2=10:=rfl;have y:a<=3:=y;omega,fun e=> ?_,b.k01,b.hh⟩
 ·show(if k=1 then dZ q.check ys else aL q.check ys)=dZ 1 (q.pre++ys);rw[aA e,b.ay8 e,l,bG,WC 1 (by omega)]
 ·refine⟨?_,?_⟩
  ·show(if k=1 then dZ q.check ys else aL q.check ys)=aL 0 (q.pre++ys);rw[aB (by omega),(b.au7 e).1,l,bG,vR 0 _ _ r]
  ·show q.size+ys.length=(q.pre++ys).length;rw[(b.au7 e).2,l,bG,aN]
 ·subst e;have j:=b.k2 rfl;have u:bi 2=10:=rfl;have c:q.ls=[]:=j.ls (by show q.i≠7;omega);exact⟨fun y=>by have y:a<=9:=y;omega,fun _=>j.fl (by show 4<=q.i;omega),j.lf,fun _=>c,j.lb,by show 8*q.ls.length<=m;rw[c];simp,fun y=>by have y:a<=7:=y;omega,fun y=>by have y:a<=3:=y;omega,fun _=>c⟩
def aA7 (N:RS k w0 f d D X P F)(h:RM k w0 n0 w g off cap f d D X P B most q lv vo v)(bo:vo= .slice none 0 0)(ho:q.o=[])(hv:RV k B most q)(hi:q.i=bi k)(hm:most<=1048576)(bw:n0<=w.heap.size):ZW f D w (pG k w0 n0 g off cap f d D X P B most q lv v w):=by
 have c:=h.m;have c1:=N.f4;have c2:=N.fd;have c3:=N.dD;have c4:=N.DP;have c5:=N.PN;have bs:=XQ k;have bx:=a03 k;have hb:=c.big;have ca:=c.zp;have bg:=c.here;have M:q.i<np k:=by omega
 have hX:X=D\/(D<X/\X<P):=by
  by_cases k0:k=0
  ·exact .inl (N.X0 k0)
  ·exact .inr (N.XP k0)
 obtain⟨sr,hH,e1,e2,e4,e5,e6⟩:=c.holds N hi ho hm;have hd:=h.dec;rw[bo]at hd;obtain⟨id,first,ae,hF,bc,ao⟩:=Ti N c hd hv hi ho hm hH e1 e4 e5;have ag:q.ls=[]:=by
  by_cases av:k=2
  ·subst av;exact(hv.k2 rfl).ls (by have e2:bi 2=10:=rfl;show q.i≠7;omega)
  ·exact(hv.k01 av).1
 have ax:=c.ag1 ag;have aa:g≠f/\g≠D/\g≠X/\g≠d:=⟨by rcases c.AA with y|y<;>omega,by rcases c.AA with y|y<;>omega,by rcases c.AA with y|y<;>omega,by rcases c.AA with y|y<;>omega⟩
 have bu:(B.drop q.z).length=B.length-q.z:=dX;have ac:w.cell? ⟨P,q.i,none⟩=some (.func (.func id) first ae):=by
  rw[<-hF];exact(vF (a:=⟨P,q.i,none⟩) (c.old P c4 (by omega) c5)).trans (N.parts q.i M)
 have bt:=aO hd;have bv:=aO c.feed;have bp:=hH.place.2.2.2.1;have ar:=hd;rw[nU M]at ar
 refine(Ec D f d P q.i (np k-q.i-1) (q.p-8*q.z) id first ae (.slice (bE g off (B.drop q.z).length) (B.drop q.z).length cap) _ q.z (eP q.nm) (fun j=>(j=D\/j=d\/j=f\/v.ownBlock=some j)\/j=X)
  (fun t y w'=>t=(y==0)/\∃G ys,gQ w' D f d (fD P q.i (np k)) G (eP q.nm)/\Taken w' (w.heap.size+3) G ys/\ED k w' X D (q.CK k ys) lv/\iR ys/\ys.length<=most/\rZ d f w0.heap.size g off cap q.z (B.drop q.z) sr v (w.heap.size+3) y G ys w')
  w bc ar ac (by omega) c.feed (fun j y=>by
   rcases y with(y|y|y|y)|y
   ·omega
   ·omega
   ·omega
   ·exact(c.ar8 j y).2.1
   ·omega) (by omega) ?_).mono ?_
 ·intro w1 bl ak;apply(ao w1 bl).mono;rintro r w' ⟨e,G,ys,rfl,a1,a2,a3,a4,a5,a6,a7⟩;exact⟨a3,a7.feed,⟨G,_,by rw[<-nU M];exact a1⟩, .inl ⟨_,e,rfl,rfl,G,ys,a1,by rw[<-ak];exact a2,a4,a5,a6,by rw[<-ak];exact a7⟩⟩
 ·intro r w2 hw;obtain⟨w1,w',G,cb,A,s1,z1,s2,d1,d2,t,y,rfl,⟨rfl,cc,ys,a1,a2,a4,a5,a6,a7⟩,aq⟩:=hw.ex;rw[<-nU M]at d1;obtain⟨rfl,rfl⟩:=Bp d1 a1;have z2:=s1.size;have z3:=s2.size;have br:X<w.heap.size:=by omega
  have K:Step (fun j=>j=D\/j=w.heap.size+1) w' w2:=by
   rw[aq];cases(y==0)with
   |true=>exact((aU _ w').setCell (p:=(U D 2)) (.inl rfl) _).setCell (p:=⟨w.heap.size+1,0,none⟩) (.inr rfl) _
   |false=>exact(aU _ w').setCell (p:=⟨w.heap.size+1,0,none⟩) (.inr rfl) _
  have J:Step (RO D d f X lv v) w w2:=by
   refine(((s1.mono (S':=RO D d f X lv v) (fun _ x=>x.elim)).trans' s2 (fun j _ x=> ?_)).trans' K (fun j H x=> ?_))
   ·rcases x with(x|x|x|x)|x
    ·exact .inl x
    ·exact .inr (.inl x)
    ·exact .inr (.inr (.inl x))
    ·exact .inr (.inr (.inr (.inr (.inr x))))
    ·exact .inr (.inr (.inr (.inl x)))
   ·rcases x with x|x
    ·exact .inl x
    ·omega
  have an:∀j,RO D d f X lv v j->j=D\/j=d\/j=f\/j=X\/(w0.heap.size<=j/\j<w.heap.size/\j≠g):=fun j x=>by
   rcases x with x|x|x|x|x|x
   ·exact .inl x
   ·exact .inr (.inl x)
   ·exact .inr (.inr (.inl x))
   ·exact .inr (.inr (.inr (.inl x)))
   ·rw[ax]at x;cases x
   ·exact .inr (.inr (.inr (.inr (c.ar8 j x))))
  have hold:∀a,D<a->a≠X->a<w0.heap.size->w2.heap[a]? =w0.heap[a]? :=fun a b1 b2 b3=>by
   rw[<-c.old a b1 b2 b3];exact J.block a (by omega) (fun x=>by rcases an a x with x|x|x|x|x<;>omega)
  have au:¬RO D d f X lv v g:=fun x=>by
   rcases an g x with x|x|x|x|x
   ·exact aa.2.1 x
   ·exact aa.2.2.2 x
   ·exact aa.1 x
   ·exact aa.2.2.1 x
   ·exact x.2.2 rfl
  have aj:=c.src.step J au;have af:g<f\/(w0.heap.size<=g/\∃A,w2.heap[g]? =some (.cells A 5 (0,0))):=by
   rcases c.AA with x|⟨x,A,z⟩
   ·exact .inl x
   ·exact .inr ⟨x,A,J.at_ z au⟩
  have bq:=c.glt;have z4:=J.size;have ai:=c.order.step J (fun j H x=>by rcases an j x with x|x|x|x|x<;>omega);have al:ED k w2 X D (q.CK k ys) lv:=a4.step K (fun k0 x=>by
   have:=N.XP k0;rcases x with x|x<;>omega)
  have T:Taken w2 n0 G ys:=(fJ a2 K (fun j H x=>by
   have:=(a2.lt j H).1;rcases x with x|x<;>omega)).mono (by omega)
  have R:tQ w2 w0.heap.size lv q.ls:=by
   rw[ax,ag];exact jJ _ _ _ _
  have L:gQ w2 D f d (if(y==0)=true then fD P (q.i+1) (np k)else fD P q.i (np k)) G (eP q.nm):=by
   rw[aq];cases(y==0)with
   |true=>
    have h9:=aV d1 2 (uJ P q.i (np k-q.i-1));rw[yQ M]at h9;refine((aU (·=w.heap.size+1) _).setCell (p:=⟨w.heap.size+1,0,none⟩) rfl _).at_ (k:=D) ?_ (by omega);rw[yQ M];simpa using h9
   |false=>exact((aU (·=w.heap.size+1) _).setCell (p:=⟨w.heap.size+1,0,none⟩) rfl _).at_ (k:=D) d1 (by omega)
  have W:=Same.drop B (z:=q.z) (by omega);have ah:∀j,(Value.slice none 0 0).ownBlock=some j->False:=fun j H=>by simp[Value.ownBlock]at H
  rcases a7 with⟨n,out,q1,bb,hr,rfl,q',bf,bj,be⟩|⟨rfl,n,s',b,v',b1,b2,rfl,b4,b5,b6⟩
  ·have C:q.pre++out.drop sr.taken=out:=by
    have:=hr.begins;rw[e4]at this;rw[e2];exact NA this
   have S:=Yr W hr;rw[<-e1]at S;have aw:(q.pre++out.drop sr.taken).length<=most:=by
    rw[C,<-e5];exact hr.most (by rw[e4,e5];have:=hv.len;rw[ho,bG]at this;exact this)
   by_cases ad:y=0
   ·subst ad;obtain⟨rfl,bz⟩:=bj rfl;rw[aA rfl]at S;have h8:(q'+8*q.z)%8=0:=by
     have:=(hr.bytes (by rw[e4];have:=hv.bytes;rw[ho,bG]at this;exact this) (fun x=>absurd x (by have:=(hv.sat hi).1;rw[e1]at this;exact this))).2;omega
    refine⟨0,rfl, .inl ⟨rfl,{ q.CK k (out.drop sr.taken)with i:=bi k+1,p:=q'+8*q.z },lv,G, .slice none 0 0,⟨⟨hold,aj,af,by omega,ai,al,R,c.ag1,?_,by omega,fun z=>by have z:bi k+1<bi k:=z;omega,fun z=>by have z:bi k+1=bi k:=z;omega,fun j H=>(ah j H).elim,fun _=>rfl,by show q'+8*q.z<=_;omega,by show 8*q.z<=q'+8*q.z;omega,be.imp fun A y=>K.at_ y (fun x=>by rcases x with x|x<;>omega)⟩,?_,T⟩,fun z=>by have z:bi k+1<=bi k:=z;omega,⟨J,fun j H=> ?_⟩,?_,?_,?_,rfl,rfl⟩⟩
    ·show bN w2 f _ (q'+8*q.z-8*q.z) q.z;rw[sV];exact K.at_ bf (fun x=>by rcases x with x|x<;>omega)
    ·show gQ w2 D f d (fD P (bi k+1) (np k)) G (eP q.nm);rw[hi]at L;exact L
    ·rcases H with H|H
     ·exact .inl (.inr (.inr (.inr (.inr (.inl H)))))
     ·exact(ah j H).elim
    ·intro Y e am used name u;have ht:=Sy (q:={ q.CK k (out.drop sr.taken)with i:=bi k+1,p:=q'+8*q.z }) N.kk rfl u;unfold dV;rw[aA hi];refine⟨n,0,out,_,Ho Y S (by omega),?_⟩;rw[aA rfl];have ht:TL k (B++Y) (q'+8*q.z) (q.pre++out.drop sr.taken) q.nm e am used name:=ht;rw[C]at ht;exact ht
    ·exact hv.CK ho _ aw a5 (bi k+1) _ q.s hi ⟨by omega,by omega⟩ (fun _=>h8) (fun z=>by omega)
    ·unfold S9;show 13-(bi k+1)+(8*B.length-(q'+8*q.z))+(if bi k+1<=bi k then 8*B.length else 0)<13-q.i+(8*B.length-q.p)+(if q.i<=bi k then 8*B.length else 0)
     rw[aB (by omega),aA (by omega)];omega
   ·rw[aB ad]at S;refine⟨y,rfl, .inr (.inr ⟨ad,bb,_,G,out.drop sr.taken,q.nm,L,T,J,fun Y=> ?_⟩)⟩;unfold dV;rw[aA hi];refine⟨n,y,out,0,Ho Y S bb,?_⟩;rw[aB ad];exact⟨rfl,C,rfl,rfl⟩
  ·obtain⟨m3,m4⟩:=b1.miss;obtain⟨nr,ba⟩:=b1.run;have ap:sr.out.length<=sr.most:=(by rw[e4,e5];have:=hv.len;rw[ho,bG]at this;exact this);obtain⟨ay,bh⟩:=Nr b1 ap;have I:b.out=s'.out/\b.most=s'.most/\b.place=s'.place/\b.p=s'.p:=by
    obtain⟨l,_,rfl⟩:=b2;exact⟨rfl,rfl,rfl,rfl⟩
   have C:q.pre++s'.out.drop sr.taken=s'.out:=by
    have:=ba.begins;rw[e4]at this;rw[e2];exact NA this
   have Z:dJ w2 d f w0.heap.size g off cap q.z (B.drop q.z) { b with taken:=b.out.length } v':=by
    rw[aq];have bm:Step (·=w.heap.size+1) w' (w'.setCell ⟨w.heap.size+1,0,none⟩ (V ((3:Nat):Int))):=(aU (·=w.heap.size+1) w').setCell (p:=⟨w.heap.size+1,0,none⟩) rfl _;exact b4.other bm d2 (by decide) (by decide) (by decide) (by decide) (by omega) (by omega)
   have Q:=b4.bits;have Q:b.p<=8*(B.drop q.z).length:=Q;have bn:RV k B most { q.CK k (s'.out.drop sr.taken)with i:=q.i,p:=b.p+8*q.z,s:=({ b with taken:=b.out.length }:GS).sh (8*q.z) }:=hv.CK ho _ (by rw[C,<-e5];exact bh) a5 q.i _ _ hi ⟨by omega,by omega⟩ (fun z=>by omega) (fun _=>⟨by show b.place≠3;rw[I.2.2.1];exact m3,rfl,by show b.out=_;rw[C,I.1],by show b.most=most;rw[I.2.1,ay,e5]⟩);refine⟨3,rfl, .inr (.inl ⟨rfl,{ q.CK k (s'.out.drop sr.taken)with i:=q.i,p:=b.p+8*q.z,s:=({ b with taken:=b.out.length }:GS).sh (8*q.z) },lv,G,v',⟨⟨hold,aj,af,by omega,ai,al,R,c.ag1,?_,by omega,fun z=>by have z:q.i<bi k:=z;omega,fun _=> .inr ⟨_,Z,rfl,?_,?_,?_,rfl⟩,fun j H=> ?_,fun z=>by have z:bi k<q.i:=z;omega,by show b.p+8*q.z<=_;omega,by show 8*q.z<=b.p+8*q.z;omega,by obtain⟨st,_,ab,_⟩:=Z.ex;exact⟨_,ab.dec.blk⟩⟩,?_,T⟩,⟨J,fun j H=> ?_⟩,?_,bn,?_,rfl,rfl,b6⟩)⟩
   ·show bN w2 f _ (b.p+8*q.z-8*q.z) q.z;rw[sV];exact Z.place.2.2.1
   ·show b.out.length=(q.pre++s'.out.drop sr.taken).length;rw[C,I.1]
   ·show b.out=q.pre++s'.out.drop sr.taken;rw[C,I.1]
   ·show b.most=most;rw[I.2.1,ay,e5]
   ·obtain⟨st,rfl,ab,_⟩:=Z.ex;have h1:=ab.dec.own.lt j H;exact⟨h1.1,h1.2,fun e=>ab.af9.row (by rw[H,e])⟩
   ·exact L
   ·rcases H with H|H
    ·exact .inl (.inr (.inr (.inr (.inr (.inl H)))))
    ·rcases b5 j H with x|x
     ·exact .inl (.inr (.inr (.inr (.inr (.inr x)))))
     ·exact .inr (by omega)
   ·intro Y e am used name u;unfold dV at u|-
    rw[aA (by exact hi)]at u;rw[aA hi];obtain⟨n1,x1,o1,q1,bk,u⟩:=u;obtain⟨m',az⟩:=b1.on (Tg B Y (by omega)) (Ke b2 _ _ m3 bk);rw[<-e1]at az;exact⟨m',x1,o1,q1,az,u⟩
   ·unfold dV;rw[aA (by exact hi)];refine⟨1,3,_,0, .miss _ (by show b.place≠3;rw[I.2.2.1];exact m3) (Gi b2 _ _ ?_),?_⟩
    ·rw[zT W,m4];rfl
    ·rw[aB (by omega)];exact⟨rfl,by show q.pre++s'.out.drop sr.taken=b.out;rw[C,I.1],rfl,rfl⟩
end Go.Proofs.YtbpahojchgpdnaaGreatDoor
