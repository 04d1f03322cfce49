import Derived.Test.YtbpahojchgpdnaaGreatDoorXTold2
import Derived.Test.YtbpahojchgpdnaaGreatDoorGzipC
import Derived.Test.YtbpahojchgpdnaaGreatDoorRefB
import Derived.Lib.LaidTab
import Derived.ProofKit
import Derived.OpenShut
import Derived.Deep.DeepHandedRow
import Derived.Deep.Slices
set_option maxRecDepth 20000
set_option maxHeartbeats 4000000
set_option linter.all false
namespace Go.Proofs.YtbpahojchgpdnaaGreatDoor
open Go.RowKit Go.dM Go.Proofs.Tryz
variable {W W' w w':aH} {B base fuel g n:Nat} {v:aK} {cs:List aK}
def Q9 (wrap:Int)(b:bY)(most:Int):Prop:=
 ∃(e used:Nat) (out:aD) (nm:bY),out.length<=1048576/\
  (∀(g cap:Nat) (w:aH),Go.dM.ay5 w g 0 (bytesOf b)->g<w.heap.size->bL w->4<=w.heap.size->
   Calls prog 25 #[V wrap, .slice (some (U g 0)) b.size cap,V most] w
    fun r w'=>∃v',r= .returned (.agg #[V (e:Nat),v',V (used:Nat), .string nm])/\w'.ownsRow w.heap.size 5 1 v' out.length (jR out)/\O w w')/\
  (∀w:aH,Calls prog 67 #[V wrap, .string b,V most] w
    fun r w'=>∃v',r= .returned (.agg #[V (e:Nat),v',V (used:Nat), .string nm])/\w'.ownsRow w.heap.size 5 1 v' out.length (jR out)/\O w w')
def RG {b:bY}(h:bA w B 5 (b.size+8) (jS b))(a:b.size<=140737488351232):Go.dM.ay5 w B 0 (bytesOf b):=by
 refine⟨fun i hi=> ?_,fun i=> ?_,by rw[bytesOf_length];exact a⟩
 ·rw[bytesOf_length]at hi;rw[dS,h.cell i (by omega)];unfold jS;rw[aA hi]
 ·by_cases hi:i<(bytesOf b).length
  ·rw[bV hi];exact pV b _ (vE hi)
  ·rw[fZ (by omega)];decide
def SA {f:Nat->aK}(h:bA w B 5 n f)(c:base<=B)(hn:n<=maxLen):∃ys,w.ownsRow base 5 1 (.slice (some (U B 0)) n n) n ys:=by obtain⟨A,b,a,_⟩:=h;refine⟨A.toList,by simp[a], .inr ⟨B,n,A,rfl,c,b,aS _,hn,by omega,?_⟩⟩;rw[kW (by simp[a])]
def mJ {e:Nat}{u:aK}{xs:List aK}(h:W.ownsRow base e 1 u n xs):∃a c,u= .slice a n c:=by
 obtain⟨_,⟨b,d⟩|⟨g,cap,_,b,_⟩⟩:=h
 ·exact⟨none,0,by rw[b,d]⟩
 ·exact⟨_,_,b⟩
structure UR (w wc:aH)(e used:Nat)(out:aD)(nm:bY)(R:Nat)(v:aK):Prop where
 blk:wc.heap[R]? =some (.cells #[V (e:Nat),v,V (used:Nat), .string nm] 45 (0,0))
 own:wc.ownsRow w.heap.size 5 1 v out.length (jR out)
 new:w.heap.size<=R
 step:O w wc
def EL:Array aK:=#[V 0, .slice none 0 0,V 0, .string ⟨#[]⟩]
def Xt {R:Nat}{a b c d:aK}{t:TypeId}(h:w.heap[R]? =some (.cells #[a,b,c,d] t (0,0)))(e f i j:aK):((((w.setCell (U R 0) e).setCell (U R 1) f).setCell (U R 2) i).setCell (U R 3) j).heap[R]? =some (.cells #[e,f,i,j] t (0,0)):=by have k:=aV h 0 e;have l:=aV k 1 f;have m:=aV l 2 i;have o:=aV m 3 j;simpa using o
def UR.mk' {w3:aH}{e used:Nat}{out:aD}{nm:bY}{R:Nat}(hs:O w w3)(c:w3.heap[R]? =some (.cells EL 45 (0,0)))(own:w3.ownsRow w.heap.size 5 1 v out.length (jR out))(b:w.heap.size<=R):UR w ((((w3.setCell (U R 0) (V e)).setCell (U R 1) v).setCell (U R 2) (V used)).setCell (U R 3) (.string nm)) e used out nm R v:=by have a:∀i:Nat,v.ownBlock≠some ((U R i):Addr).block:=fun i=>gM c own (by decide);refine⟨Xt c _ _ _ _,?_,b,(((hs.aZ b _).aZ b _).aZ b _).aZ b _⟩;exact mI (mI (mI (mI own (a 0) _) (a 1) _) (a 2) _) (a 3) _
def sF {c k:Nat}(h:(Value.slice (some (U B 0)) n c).ownBlock=some k):B=k:=by simpa[Value.ownBlock]using h
def KG (w:aH)(F:Nat->Prop)(w':aH)(k:Nat):Prop:=((F k/\k<w.heap.size)\/w.heap.size<=k)/\k<w'.heap.size
def xZ.ltF {c:Nat}{b:aK}{hs:List Hd}{F:Nat->Prop}(K:xZ w base c b v hs F):xZ w base c b v hs (fun k=>F k/\k<w.heap.size):=⟨K.blk,K.own,fun q a=>⟨(K.each q a).1,fun k hk=>⟨(K.each q a).2 k hk,(K.each q a).1.lt hk⟩⟩⟩
def xZ.kg {d:Nat}{c:aK}{hs:List Hd}{F b:Nat->Prop}(K:xZ w' base d c v hs b)(h:∀k,b k->(F k/\k<w.heap.size)\/w.heap.size<=k):xZ w' base d c v hs (KG w F w'):=⟨K.blk,K.own,fun q a=>⟨(K.each q a).1,fun k hk=>⟨h k ((K.each q a).2 k hk),(K.each q a).1.lt hk⟩⟩⟩
def PG (kind nn wrap way:Int)(b:bY)(most:Int):aK:= .agg #[V kind,V nn,V wrap,V way, .string b,V most]
def Hl (G:Nat)(kind nn wrap way most:Int)(b:bY)(ps v:aK)(hs:List Hd)(F:Nat->Prop)(w:aH)(K:xZ w 4 G ps v hs F)(hO:bL w)(h4:4<=w.heap.size)(bp:4<=G)(hb:b.size<=140737488351232)(hA:Q9 wrap b most)(hl:hs.length<=24000000000000):Calls prog 43 #[E G,PG kind nn wrap way b most] w fun r w'=>r= .returned (.bool true)/\∃v' t,xZ w' 4 G ps v' t (KG w F w')/\t.length=hs.length+8/\bL w'/\(∀k,v'.ownBlock=some k->v.ownBlock=some k\/w.heap.size<=k)/\Step (fun k=>k=G\/v.ownBlock=some k) w w':=by
 obtain⟨e,used,out,nm,bo,hG,hX⟩:=hA;have HK:=hide K.ltF;have HO:=hide hO;have HG:=hide hG;have HX:=hide hX;clear K hO hG hX;unfold PG;go_enter func43,ntmps43;go_wp2_with fail;obtain⟨d,l⟩:=aP w.heap.size;obtain⟨w1,A⟩:=aP (w.alloc (.cells #[V kind,V nn,V wrap,V way, .string b,V most] 25));have J:O w w1:=by rw[A];exact(aU _ _).alloc _
 have af:w1.heap[d]? =some (.cells #[V kind,V nn,V wrap,V way, .string b,V most] 25 (0,0)):=by rw[A,l];exact aR _ _
 have bb:w1.heap.size=d+1:=by rw[A,l];simp
 rw[<-A,<-l];have ae:d=w.heap.size:=l;have ap:=hide ae;clear A l ae;apply(Ad b w1 hb).mono;rintro r w2 ⟨rfl,j,u⟩;obtain⟨B,hB⟩:=aP w1.heap.size;rw[<-hB]at j|-
 have f:=u.at_ af (fun x=>x);have c2:=aC f 2 _ rfl;have c4:=aC f 4 _ rfl;have c5:=aC f 5 _ rfl;have ay:B<w2.heap.size:=j.lt;have S:=hide (fun W (hW:O w2 W)=>HG.o B (b.size+8) W (RG (j.step hW (fun x=>x)) hb) (nM ay hW.size) (HO.o.step ((J.trans u).trans hW) (fun _ _ x=>x)) (bB h4 ((J.trans u).trans hW).size));have Z:=hide (show B=d+1 by omega);have q:=hide (J.trans u);have P:=hide j;have bh:=hide f;clear HG J u af f bb hB j;have bn:(0:Int)<=(b.size:Int):=by omega
 have bm:(b.size:Int)<=(b.size:Int)+8:=by omega
 have l:d<w2.heap.size:=by have:=Z.o;omega
 have n2:¬d=w2.heap.size:=by omega
 have be:¬w2.heap.size=d:=by omega
 go_upto_region 2 with fail;go_cut [6,22] (fun p r wc=>∃R1 v1,p=(E R1)/\r= .agg #[V e,v1,V used, .string nm]/\UR w2 wc e used out nm R1 v1);case first=>
  go_region_held3 (fun w'=>w'.cell? (U d 2)=some (V wrap)/\w'.cell? (U d 4)=some (.string b)/\w'.cell? (U d 5)=some (V most)) (go_keep)
   (first
    |(go_at_call 25;apply(S.o w2.drew ((aU _ _).drew)).mono;rintro e w3 ⟨v1,rfl,i,c⟩;obtain⟨va,vc,rfl⟩:=mJ i;have k2:=c.cell (p:=(U d 2)) (w:=w2.drew) c2 (fun x=>x);have k4:=c.cell (p:=(U d 4)) (w:=w2.drew) c4 (fun x=>x);have k5:=c.cell (p:=(U d 5)) (w:=w2.drew) c5 (fun x=>x);have hz:=c.size;have n3:¬d=w3.heap.size:=(by simp at hz;omega);have bt:¬w3.heap.size=d:=(by simp at hz;omega))
    |(go_at_call 25;apply(S.o (w2.alloc (.cells EL 45)).drew (((aU _ _).alloc _).drew)).mono;rintro e w3 ⟨v1,rfl,i,c⟩;obtain⟨va,vc,rfl⟩:=mJ i;have s:=((aU (fun _=>False) w2).alloc (.cells EL 45)).drew;have k2:=c.cell (s.cell c2 (fun x=>x)) (fun x=>x);have k4:=c.cell (s.cell c4 (fun x=>x)) (fun x=>x);have k5:=c.cell (s.cell c5 (fun x=>x)) (fun x=>x);have M:=c.at_ (k:=w2.heap.size) (aR w2 (.cells EL 45)) (fun x=>x);have z0:=aC M 0 _ rfl;have z1:=aC M 1 _ rfl;have z2:=aC M 2 _ rfl;have z3:=aC M 3 _ rfl;have y0:=aJ M 0;have y1:=aJ M 1;have y2:=aJ M 2;have y3:=aJ M 3))
  ·go_wp2_with fail;go_meet;case rel=>exact⟨_,_,rfl,rfl,aR _ _,bH (i.alloc _) (aS _),c.size,((aU _ _).drew.trans c).alloc _⟩
  ·go_wp2_with fail;go_meet;case rel=>exact⟨_,_,rfl,rfl,UR.mk' (s.trans c) M (bH i s.size) (aS _)⟩
 case rest=>
  obtain⟨R1,v1,rfl,rfl,H⟩:=hcut;obtain⟨w4,h⟩:=aP wc;subst h;have d2:=H.step.cell c2 (fun x=>x);have d4:=H.step.cell c4 (fun x=>x);have d5:=H.step.cell c5 (fun x=>x);obtain⟨va,vc,rfl⟩:=mJ H.own;have bl:d<w4.heap.size:=nM l H.step.size;have m2:¬d=w4.heap.size:=by omega
  have bs:¬w4.heap.size=d:=by omega
  have ac:=hide H;clear H c2 c4 c5 n2 be S;go_wp2_with fail;apply(HX.o w4).mono;rintro r w5 ⟨v2,rfl,C,T⟩;obtain⟨vx,vy,rfl⟩:=mJ C;have I:UR w4 (w5.alloc (.cells #[V e, .slice vx out.length vy,V used, .string nm] 45)) e used out nm w5.heap.size (.slice vx out.length vy):=⟨aR _ _,C.alloc _,T.size,T.alloc _⟩
  clear C T;go_upto_region 4 with fail;obtain⟨w6,aj⟩:=aP (w5.alloc (.cells #[V e, .slice vx out.length vy,V used, .string nm] 45));rw[<-aj]at I|-
  obtain⟨R2,ad⟩:=aP w5.heap.size;rw[<-ad]at I|-
  clear aj ad;have e4:=I.step.cell d4 (fun x=>x);have z:=ac.o.step.trans I.step;have ai:=TH B b w6 (P.o.step z (fun x=>x)) hb;have au:=hide ai;have aw:=hide I;have ab:=hide z;clear ai I d2 d4 d5 z;go_wp2_with fail;apply au.o.mono;rintro r w7 ⟨rfl,L⟩;have H:=ac.o;have I:=aw.o;have R:=I.step.trans L;have q1:=R.at_ H.blk (fun x=>x);have q2:=L.at_ I.blk (fun x=>x);have a0:=aC q1 0 _ rfl;have a1:=aC q1 1 _ rfl;have a2:=aC q1 2 _ rfl;have a3:=aC q1 3 _ rfl;have b0:=aC q2 0 _ rfl;have b1:=aC q2 1 _ rfl;have b2:=aC q2 2 _ rfl;have b3:=aC q2 3 _ rfl;have o1:=eX H.own R (fun _ _ x=>x);have o2:=eX I.own L (fun _ _ x=>x);have ar:=hide (al0 e used _ _ _ _ out nm w7 o1 o2);have aq:=hide (ab.o.trans L);go_wp2_with fail;apply ar.o.mono;rintro r w8 ⟨rfl,X⟩;have m:=aq.o.trans X;have a:=q.o.trans m;have Q:=HK.o.step0 a;have o8:=eX o1 X (fun _ _ x=>x);have q8:=X.at_ q1 (fun x=>x);have bk:w.heap.size+1=B:=by rw[Z.o,ap.o]
  have az:b.size+8<=maxLen:=by unfold maxLen;omega
  obtain⟨ys,ob⟩:=SA (base:=4) (P.o.step m (fun x=>x)) (by omega) az;have an:=hide (zM 4 G (b.size+8) ps v _ hs _ ys w8 Q (fun k hk x=>by have:=sF hk;omega) ob (bB h4 a.size) (by omega) (by omega));go_wp2_with fail;apply an.o.mono;rintro r w9 ⟨rfl,v9,ah,K9,ba,bc,N⟩;have Q:=Q;have a:=a;have m:=m;have g1:∀k,(Value.slice va out.length vc).ownBlock=some k->w2.heap.size<=k/\k<w8.heap.size:=fun k hk=>o8.lt k hk;have q9:=N.at_ q8 (by
   rintro(x|x|x)
   ·exact gM q8 ob (by decide) x
   ·have:=q8;rw[x,Q.blk]at this;cases this
   ·exact gM q8 Q.own (by decide) x)
  have o9:=eX o8 N (fun k hk=>by
   obtain⟨bj,hc⟩:=nN o8 hk;rintro(x|x|x)
   ·have:=sF x;have:=(g1 k hk).1;omega
   ·rw[x,Q.blk]at hc;cases hc
   ·exact gM hc Q.own (by decide) x)
  have f1:=aC q9 1 _ rfl;have aa:=hide (zM 4 G out.length ps v9 _ ah _ _ w9 K9 (fun k hk x=>by
   have:=g1 k hk;rcases x with x|x|x
   ·have:=q.o.size;omega
   ·have:=sF x;omega
   ·omega) (bH o9 (bB h4 q.o.size)) (bB h4 (bB a.size N.size)) (by omega) (by omega))
  have av:=hide (show(∀k,v9.ownBlock=some k->v.ownBlock=some k\/w.heap.size<=k)/\ah.length=hs.length+4/\Step (fun k=>k=G\/v.ownBlock=some k) w w9 from⟨fun k hk=>(bc k hk).imp id (fun x=>bB a.size x),ba,(a.mono (fun _ x=>x.elim)).trans' N (fun k hk x=>by
   rcases x with x|x|x
   ·have:=sF x;omega
   ·exact .inl x
   ·exact .inr x)⟩)
  have ao:=hide (show∀k,v.ownBlock=some k->4<=k from fun k hk=>(Q.own.lt k hk).1);go_wp2_with fail;apply aa.o.mono;rintro r D ⟨rfl,bf,ag,ax,bg,ak,al⟩;obtain⟨m9,l9,t9⟩:=av.o;have am:Step (fun k=>k=G\/v.ownBlock=some k) w D:=t9.trans' al (fun k hk x=>by
   rcases x with x|x|x
   ·have:=(g1 k x).1;have:=q.o.size;omega
   ·exact .inl x
   ·rcases m9 k x with y|y
    ·exact .inr y
    ·omega)
  have Y:=hide (show∃v' t,xZ D 4 G ps v' t (KG w F D)/\t.length=hs.length+8/\bL D/\(∀k,v'.ownBlock=some k->v.ownBlock=some k\/w.heap.size<=k)/\Step (fun k=>k=G\/v.ownBlock=some k) w D from
   ⟨bf,ag,ax.kg (fun k x=>by
    have bq:=q.o.size;have br:=a.size;rcases x with(x|x|x)|x|x
    ·exact .inl x
    ·have:=sF x;exact .inr (by omega)
    ·exact .inr (by omega)
    ·have:=(g1 k x).1;exact .inr (by omega)
    ·have:=t9.size;exact .inr (by omega)),by omega,HO.o.step am (fun k hk x=>by
    rcases x with x|x
    ·omega
    ·have:=ao.o k x;omega),fun k hk=>by
    rcases ak k hk with y|y
    ·exact m9 k y
    ·exact .inr (bB t9.size y),am⟩)
  go_wp2_with fail;go_ret;exact⟨rfl,Y.o⟩
def Vv (wrap:Int)(b:bY)(most:Int)(a:¬wrap=0)(c:¬wrap=1)(d:¬wrap=2):Q9 wrap b most:=by
 refine⟨1,0,[],⟨#[]⟩,iZ _,fun g cap w i j f e=> ?_,fun w=> ?_⟩
 ·apply(af5 wrap _ most w ⟨_,_,_,rfl⟩ a c d).mono;rintro r w' ⟨rfl,hs⟩;exact⟨.slice none 0 0,rfl,jJ _ _ _ _,hs⟩
 ·apply(Rh wrap most b w a c d).mono;rintro r w' ⟨rfl,hs⟩;exact⟨.slice none 0 0,rfl,jJ _ _ _ _,hs⟩
def Dh (c:Nat)(nn wrap way most:Int)(b:bY)(f v:aK)(hs:List Hd)(F:Nat->Prop)(w:aH)(K:xZ w 4 c f v hs F)(u:bL w)(s:4<=w.heap.size)(m:4<=c)(z:b.size<=140737488351232)(t:Q9 wrap b most)(A:hs.length<=24000000000000):Calls prog 32 #[E c,PG 1 nn wrap way b most] w fun r w'=>r= .returned (.bool true)/\∃d a,xZ w' 4 c f d a (KG w F w')/\a.length=hs.length+8/\bL w'/\(∀k,d.ownBlock=some k->v.ownBlock=some k\/w.heap.size<=k)/\Step (fun k=>k=c\/v.ownBlock=some k) w w':=by
 have e:O w (w.alloc (.cells #[V 1,V nn,V wrap,V way, .string b,V most] 25)):=(aU _ _).alloc _;have p:=hide (Hl c 1 nn wrap way most b f v hs F _ (K.step0 e) (u.step e (fun _ _ x=>x)) (bB s e.size) m z t A);unfold PG at p|-
 go_enter func32,ntmps32;go_wp2_with fail;apply p.o.mono;rintro r w2 ⟨rfl,d,a,K',j,i,l,st⟩
 have q:=hide (show∃d a,xZ w2 4 c f d a (KG w F w2)/\a.length=hs.length+8/\bL w2/\(∀k,d.ownBlock=some k->v.ownBlock=some k\/w.heap.size<=k)/\Step (fun k=>k=c\/v.ownBlock=some k) w w2 from
  ⟨d,a,K'.kg (fun k x=>by
   have C:=e.size;rcases x.1 with⟨y,_⟩|y
   ·by_cases hk:k<w.heap.size
    ·exact .inl ⟨y,hk⟩
    ·exact .inr (by omega)
   ·exact .inr (by omega)),j,i,fun k hk=>(l k hk).imp id (fun x=>bB e.size x),(e.mono (fun _ x=>x.elim)).trans st⟩)
 go_wp2_with fail;go_ret;exact⟨rfl,q.o⟩
structure CP where
 kind:Int
 nn:Int
 wrap:Int
 way:Int
 s:bY
 most:Int
def CP.cell (o:CP):Nat->aK
 |0=>V o.kind
 |1=>V o.nn
 |2=>V o.wrap
 |3=>V o.way
 |4=> .string o.s
 |_=>V o.most
structure yB (w:aH)(g off:Nat)(ops:List CP):Prop where
 cell:∀i o,ops[i]? =some o->∀j,j<6->w.cell? ⟨g,off+i*6+j,none⟩=some (o.cell j)
 there:ops≠[]->g<w.heap.size
def yB.step {S:Nat->Prop}{off:Nat}{a:List CP}(h:yB w g off a)(hs:Step S w w')(hn:¬S g):yB w' g off a:=⟨fun i o hi j c=>hs.cell (h.cell i o hi j c) hn,fun b=>nM (h.there b) hs.size⟩
def Holds (w:aH)(v:aK)(ops:List CP):Prop:=
 (∃a c,v= .slice a 0 c/\ops=[])\/∃g off cap,v= .slice (some (U g off)) ops.length cap/\yB w g off ops
def qU (ops:List CP):List aK:=ops.flatMap fun o=>[V o.kind,V o.nn,V o.wrap,V o.way, .string o.s,V o.most]
def SE (a:List CP):(qU a).length=a.length*6:=by
 induction a with
 |nil=>rfl
 |cons o os ih=>
  have:qU (o::os)=[V o.kind,V o.nn,V o.wrap,V o.way, .string o.s,V o.most]++qU os:=by simp[qU]
  rw[this,aN,ih];simp;omega
def Ie (a:List CP):∀i o,a[i]? =some o->∀j,j<6->(qU a)[i*6+j]? =some (o.cell j):=by
 induction a with
 |nil=>intro i o h;simp at h
 |cons x os ih=>
  intro i o h j b;have e:qU (x::os)=[V x.kind,V x.nn,V x.wrap,V x.way, .string x.s,V x.most]++qU os:=by simp[qU]
  rw[e];cases i with
  |zero=>
   simp only[List.getElem?_cons_zero,fH]at h;subst h;rw[jA (by simp;omega)];match j,b with
   |0,_=>rfl
   |1,_=>rfl
   |2,_=>rfl
   |3,_=>rfl
   |4,_=>rfl
   |5,_=>rfl
   |n+6,h=>omega
  |succ k=>
   rw[List.getElem?_cons_succ]at h;rw[kZ (by simp;omega)];have:=ih k o h j b;rw[<-this];congr 1;simp;omega
def W9 {A:Array aK}{t:TypeId}{a:List CP}(b:w.heap[g]? =some (.cells A t (0,0)))(c:A.toList.take (a.length*6)=qU a):yB w g 0 a:=by
 refine⟨fun i o hi j d=> ?_,fun _=>aO b⟩;rw[dS];refine aC b _ _ ?_;have h:=Ie a i o hi j d;have e:i<a.length:=by
  rcases mK i a.length with h|h
  ·exact h
  ·rw[fZ h]at hi;cases hi
 rw[<-c,jQ (by omega)]at h;simpa using h
def examples (wrap:Int):List CP:=
 [⟨1,0,0,0,⟨#[75,4,0]⟩,9⟩,⟨1,0,0,0,⟨#[3,2]⟩,9⟩,⟨1,0,wrap,0,⟨#[]⟩,9⟩,⟨2,0,0,0,⟨#[]⟩,9⟩,⟨3,0,0,0,⟨#[75,4]⟩,0⟩,⟨3,0,0,0,⟨#[0]⟩,0⟩,⟨4,0,0,0,⟨#[]⟩,0⟩,⟨5,0,0,2,⟨#[97,97,97,97,97,97,97,97,97,97,97,97,97,97,97,97]⟩,0⟩]
def Kt {a:List CP}(h:Holds w v a)(hs:O w w'):Holds w' v a:=by
 rcases h with h|⟨g,off,cap,rfl,b⟩
 ·exact .inl h
 ·exact .inr ⟨g,off,cap,rfl,b.step hs (fun x=>x)⟩
def ae3:prog.cellsOf 258=3:=by kernel_rfl
def JV:prog.cellsOf 3=1:=by kernel_rfl
def Yy:prog.cellsOf 216=19:=by kernel_rfl
def Zh {α:Type}(l:List α)(h:l.length=3):∃a b c,l=[a,b,c]:=by
 match l,h with
 |[a,b,c],_=>exact⟨a,b,c,rfl⟩
def Vo {a b c:Int}{p:List MemPlace}(h:DataW.trod (fun _=>()) prog W 0 (fun _=>true) false fuel 258 cs=some (.agg [.lit (.int .i64 a), .lit (.int .i64 b), .lit (.int .i64 c)],p)):cs=[.int .i64 a, .int .i64 b, .int .i64 c]:=by obtain⟨xs,n,rfl,r,q,e,f⟩:=DataW.trod_struct underlying258 h;rw[ae3]at q;have i:DataW.trod (fun _=>()) prog W 0 (fun _=>true) false n 3 ((cs.drop 0).take (prog.cellsOf 3))=xs[0]? :=f 0 _ rfl;have j:DataW.trod (fun _=>()) prog W 0 (fun _=>true) false n 3 ((cs.drop 1).take (prog.cellsOf 3))=xs[1]? :=f 1 _ rfl;have k:DataW.trod (fun _=>()) prog W 0 (fun _=>true) false n 3 ((cs.drop 2).take (prog.cellsOf 3))=xs[2]? :=f 2 _ rfl;rw[JV]at i j k;obtain⟨y,z,A,rfl⟩:=Zh xs e;obtain⟨n0,l,s,_⟩:=uQ underlying3 i;obtain⟨n1,m,t,_⟩:=uQ underlying3 j;obtain⟨n2,o,u,_⟩:=uQ underlying3 k;clear h i j k f e;obtain⟨x,c1,c2,rfl⟩:=Zh cs q;simp only[List.drop,List.take,sN,jX]at l m o;subst l m o s t u;have d:=lZ Prod.fst r;simp only[List.map,DataW.agg.injEq,sN,DataW.lit.injEq,Lit.int.injEq,true_and,jX]at d;obtain⟨rfl,rfl,rfl⟩:=d;rfl
def UY {name:String}{a b c:Int}{rest:List (String×DataW Unit)}{r:List MemPlace}(f:prog.globalNamed name=some g)(k:(prog.globals[g]?).map (·.type)=some 258)(h:DataW.LaidVars prog W ((name, .agg [.lit (.int .i64 a), .lit (.int .i64 b), .lit (.int .i64 c)])::rest) r):(W.cell? ⟨g,0,none⟩=some (.int .i64 a)/\W.cell? ⟨g,1,none⟩=some (.int .i64 b)/\W.cell? ⟨g,2,none⟩=some (.int .i64 c))/\∃q,DataW.LaidVars prog W rest q:=by
 obtain⟨s,t,cs,fuel,p,q,i,j,d,m,o,_⟩:=h;obtain rfl:=D5 (f.symm.trans i);obtain rfl:=D5 (k.symm.trans j);have l:=Vo m;have e:cs=#[.int .i64 a, .int .i64 b, .int .i64 c]:=by
  apply Array.toList_inj.1;exact l
 subst e;exact⟨⟨World.var?_cell f d 0,World.var?_cell f d 1,World.var?_cell f d 2⟩,q,o⟩
def Zn {rest:List (String×DataW Unit)}{l:List MemPlace}(e:prog.globalNamed "bellows/bare.firstOrder" =some 0)(d:(prog.globals[0]?).map (·.type)=some 216)(h:DataW.LaidVars prog W (("bellows/bare.firstOrder",Lib.tabData .i64 [16,17,18,0,8,7,9,6,10,5,11,4,12,3,13,2,14,1,15])::rest) l):(∀i:Nat,i<19->W.cell? ⟨0,i,none⟩=some (V (bP[i]?.getD 0:Nat)))/\∃q,DataW.LaidVars prog W rest q:=by
 obtain⟨m,o,cs,fuel,p,q,b,c,a,j,k,_⟩:=h;obtain rfl:=D5 (e.symm.trans b);obtain rfl:=D5 (d.symm.trans c);have f:=Lib.cells_of_tab underlying216 underlying3 JV Yy j;refine⟨fun i hi=> ?_,q,k⟩;rw[World.var?_cell e a i,<-Array.getElem?_toList,f];match i,hi with
 |0,_=>rfl|1,_=>rfl|2,_=>rfl|3,_=>rfl|4,_=>rfl|5,_=>rfl|6,_=>rfl|7,_=>rfl|8,_=>rfl|9,_=>rfl
 |10,_=>rfl|11,_=>rfl|12,_=>rfl|13,_=>rfl|14,_=>rfl|15,_=>rfl|16,_=>rfl|17,_=>rfl|18,_=>rfl
 |n+19,h=>omega
end Go.Proofs.YtbpahojchgpdnaaGreatDoor
namespace Go.Proofs.YtbpahojchgpdnaaGreatDoor
open Go.ChangeShapes Go.WideShapes Go.ChangeAt Go.RowKit Go.dM Go.ChangeMaps Go.Deep
variable {W W' w w':aH} {B base fuel g n:Nat} {v:aK} {cs:List aK}
instance:Inhabited CP:=⟨⟨0,0,0,0,⟨#[]⟩,0⟩⟩
def Ou:Tryz.prog.cellsOf 25=6:=by kernel_rfl
def a81:Tryz.prog.cellsOf 9=1:=by kernel_rfl
def ap8:Tryz.prog.bytesOf 25=56:=by kernel_rfl
def ax3 {α:Type}(l:List α)(h:l.length=6):∃a b c d e f,l=[a,b,c,d,e,f]:=by
 match l,h with
 |[a,b,c,d,e,f],_=>exact⟨a,b,c,d,e,f,rfl⟩
def rW {H:Type}(o:CP):DataW H:= .agg [.lit (.int .i64 o.kind), .lit (.int .i64 o.nn), .lit (.int .i64 o.wrap), .lit (.int .i64 o.way), .lit (.string o.s.data.toList), .lit (.int .i64 o.most)]
def ag7 {H:Type}{enc:TypeId×aK->H}{c:Nat->Bool}{a:Bool}{x:DataW H×List MemPlace}(h:DataW.trod enc Tryz.prog W base c a fuel 25 cs=some x):∃o:CP,cs=[V o.kind,V o.nn,V o.wrap,V o.way, .string o.s,V o.most]/\x.1=rW o:=by obtain⟨xs,n,rfl,y,u,d,b⟩:=DataW.trod_struct Tryz.underlying25 h;rw[Ou]at u;have e:DataW.trod enc Tryz.prog W base c a n 3 ((cs.drop 0).take (Tryz.prog.cellsOf 3))=xs[0]? :=b 0 _ rfl;have f:DataW.trod enc Tryz.prog W base c a n 3 ((cs.drop 1).take (Tryz.prog.cellsOf 3))=xs[1]? :=b 1 _ rfl;have i:DataW.trod enc Tryz.prog W base c a n 3 ((cs.drop 2).take (Tryz.prog.cellsOf 3))=xs[2]? :=b 2 _ rfl;have j:DataW.trod enc Tryz.prog W base c a n 3 ((cs.drop 3).take (Tryz.prog.cellsOf 3))=xs[3]? :=b 3 _ rfl;have k:DataW.trod enc Tryz.prog W base c a n 9 ((cs.drop 4).take (Tryz.prog.cellsOf 9))=xs[4]? :=b 4 _ rfl;have l:DataW.trod enc Tryz.prog W base c a n 3 ((cs.drop 5).take (Tryz.prog.cellsOf 3))=xs[5]? :=b 5 _ rfl;rw[JV]at e f i j l;rw[a81]at k;obtain⟨M,N,P,Q,R,S,rfl⟩:=ax3 xs d;obtain⟨n0,m,C,_⟩:=uQ Tryz.underlying3 e;obtain⟨n1,p,D,_⟩:=uQ Tryz.underlying3 f;obtain⟨n2,q,F,_⟩:=uQ Tryz.underlying3 i;obtain⟨n3,e3,G,_⟩:=uQ Tryz.underlying3 j;obtain⟨A,r,I,_⟩:=DataW.trod_string Tryz.underlying9 k;obtain⟨z,t,J,_⟩:=uQ Tryz.underlying3 l;clear h e f i j k l b d;obtain⟨K,c1,c2,c3,c4,L,rfl⟩:=ax3 cs u;simp only[List.drop,List.take,sN,jX]at m p q e3 r t;subst m p q e3 r t C D F G I J;refine⟨⟨n0,n1,n2,n3,A,z⟩,rfl,?_⟩;rw[y];rfl
def Xq {H:Type}{enc:TypeId×aK->H}{e:Nat->Bool}{d:Bool}{x:DataW H×List MemPlace}(h:DataW.trod enc Tryz.prog W base e d fuel 25 cs=some x){o:CP}(i:cs=[.int .i64 o.kind, .int .i64 o.nn, .int .i64 o.wrap, .int .i64 o.way, .string o.s, .int .i64 o.most]): -9223372036854775808<=o.nn/\o.nn<=9223372036854775807:=by obtain⟨xs,n,rfl,k,j,a,f⟩:=DataW.trod_struct Tryz.underlying25 h;have c:DataW.trod enc Tryz.prog W base e d n 3 ((cs.drop 1).take (Tryz.prog.cellsOf 3))=xs[1]? :=f 1 _ rfl;rw[JV]at c;obtain⟨l,m,p,q,r,t,rfl⟩:=ax3 xs a;obtain⟨n1,b,u,w1⟩:=uQ Tryz.underlying3 c;subst i;simp only[List.drop,List.take,sN,Value.int.injEq,jX,true_and]at b;simp only[Lit.wf,DI,DC]at w1;rw[b];exact w1
set_option maxRecDepth 100000 in
def YT {H:Type}{enc:TypeId×aK->H}{d:DataW H}{M:List MemPlace}(h:DataW.Trod enc Tryz.prog W 0 (fun _=>true) true 22 v d M)(I:Value.okWide Tryz.prog W .any base 22 v)(J:(DataW.weightsEach Tryz.prog [22] [d]).all (·<=reachBytes)=true):∃e,Holds W v e/\(∀o∈e,∃f spare,d= .slice f spare/\rW o∈f)/\e.length*56<=140737488351232/\(e=[]\/∃spare,d= .slice (e.map rW) spare)/\∀o∈e,-9223372036854775808<=o.nn/\o.nn<=9223372036854775807:=by
 obtain⟨N,xG,x,rfl⟩:=okWide_slice Tryz.underlying22 I;obtain⟨fuel,S⟩:=h;have G:DataW.trod enc Tryz.prog W 0 (fun _=>true) true fuel 22 [.slice N xG x]=some (d,M):=by simpa[Value.cells]using S
 rcases open_slice Tryz.underlying22 G with⟨y,_⟩|⟨a,len,cap,m,n,D,Pl,y,Z,hl,hm,z,L,F⟩
 ·simp only[sN,nK,jX]at y;obtain⟨rfl,rfl,rfl⟩:=y;exact⟨[], .inl ⟨none,0,rfl,rfl⟩,by simp,by simp, .inl rfl,by simp⟩
 ·simp only[sN,nK,jX]at y;obtain⟨rfl,rfl,rfl⟩:=y;simp only[if_true]at z;subst z;simp only[Prod.mk.injEq]at L;obtain⟨rfl,rfl⟩:=L;have c:=sized_slice J (j:=0) (t:=22) rfl rfl Tryz.underlying22;rw[ap8,nG,List.length_range]at c;have X:reachBytes=140737488351232:=rfl;obtain⟨k,s⟩:=choose_lt (α:=CP) (n:=m) (p:=fun i o=>(∀j,j<6->W.cell? (a.add (i*6+j))=some (o.cell j))/\D i=rW o/\-9223372036854775808<=o.nn/\o.nn<=9223372036854775807) (fun i hi=>by
   obtain⟨P,k1,k2⟩:=F i hi;rw[Ou]at k1;obtain⟨_,_,q⟩:=World.cells?_some k1;obtain⟨o,u,R⟩:=ag7 k2;refine⟨o,fun j C=> ?_,R,Xq k2 u⟩;have K:=q j C;rw[add_add]at K;rw[K,u];match j,C with
   |0,_=>rfl
   |1,_=>rfl
   |2,_=>rfl
   |3,_=>rfl
   |4,_=>rfl
   |5,_=>rfl
   |n+6,h=>omega)
  have get:∀i o,((List.range xG).map k)[i]? =some o->i<xG/\k i=o:=fun i o h=>by
   by_cases hi:i<xG
   ·rw[kE,zI hi]at h;exact⟨hi,by simpa using h⟩
   ·rw[fZ (by simp;omega)]at h;cases h
  have l:((List.range xG).map k).length=xG:=by simp
  refine⟨(List.range xG).map k,?_,fun o u=> ?_,?_, .inr ⟨_,by
   rw[List.map_map];congr 1;exact IY fun i hi=>(s i (by have:=GN.1 hi;omega)).2.1⟩,fun o u=> ?_⟩
  ·by_cases Q:xG=0
   ·subst Q;exact .inl ⟨some a,m,rfl,rfl⟩
   ·obtain⟨b,off,A⟩:=a;have r:A=none:=(by simpa[Addr.add]using World.cell?_spot ((s 0 (by omega)).1 0 (by omega)));subst r;refine .inr ⟨b,off,m,by rw[l],fun i o hi j C=> ?_,fun _=> ?_⟩
    ·obtain⟨T,rfl⟩:=get i o hi;have:=(s i (by omega)).1 j C;rw[add_plain]at this;rw[iV];exact this
    ·exact kF W (U b off) (by have:=(s 0 (by omega)).1 0 (by omega);simpa[Addr.add]using this)
  ·obtain⟨i,hi,rfl⟩:=sU.1 u;rw[GN]at hi;refine⟨_,_,rfl,?_⟩;rw[<-(s i (by omega)).2.1];exact sU.2 ⟨i,GN.2 hi,rfl⟩
  ·rw[l];have Y:(xG+((List.range (m-xG)).map fun j=>D (xG+j)).length)*56<=reachBytes:=c;have:=mZ 56 (Nat.le_add_right xG ((List.range (m-xG)).map fun j=>D (xG+j)).length);omega
  ·obtain⟨i,hi,rfl⟩:=sU.1 u;rw[GN]at hi;exact(s i (by omega)).2.2
def Ep {H:Type}:∀{b:List (DataW H)} {d:DataW H},d∈b->Rows.uptoBulk d<=Rows.uptoBulkAll b
 |x::r,d,a=>by
  rw[Rows.uptoBulkAll]
  rcases fE.1 a with rfl|a
  ·omega
  ·have:=Ep a
   omega
def aj7 {H:Type}(o:CP):o.s.size<=Rows.uptoBulk (rW (H:=H) o):=by
 have a:Rows.uptoBulk (rW (H:=H) o)=Rows.uptoBulkAll ([.lit (.int .i64 o.kind), .lit (.int .i64 o.nn), .lit (.int .i64 o.wrap), .lit (.int .i64 o.way), .lit (.string o.s.data.toList), .lit (.int .i64 o.most)]:List (DataW H))+1:=by
  unfold rW;rw[Rows.uptoBulk]
 have b:Rows.uptoBulk (.lit (.string o.s.data.toList):DataW H)<=Rows.uptoBulkAll ([.lit (.int .i64 o.kind), .lit (.int .i64 o.nn), .lit (.int .i64 o.wrap), .lit (.int .i64 o.way), .lit (.string o.s.data.toList), .lit (.int .i64 o.most)]:List (DataW H)):=
  Ep (.tail _ (.tail _ (.tail _ (.tail _ (.head _)))))
 have c:Rows.uptoBulk (.lit (.string o.s.data.toList):DataW H)=o.s.data.toList.length+1:=by rw[Rows.uptoBulk]
 have d:o.s.data.toList.length=o.s.size:=by rw[IE];rfl
 omega
def Et {H:Type}:∀a:List CP,a.length<=Rows.uptoBulkAll (a.map (rW (H:=H)))
 |[]=>iZ _
 |o::a=>by
  have b:Rows.uptoBulk (rW (H:=H) o)=Rows.uptoBulkAll ([.lit (.int .i64 o.kind), .lit (.int .i64 o.nn), .lit (.int .i64 o.wrap), .lit (.int .i64 o.way), .lit (.string o.s.data.toList), .lit (.int .i64 o.most)]:List (DataW H))+1:=by
   unfold rW;rw[Rows.uptoBulk]
  have c:=Et (H:=H) a
  rw[uI,Rows.uptoBulkAll,iN]
  omega
def aa0 {H:Type}{d:DataW H}{a:List CP}(h:a=[]\/∃spare,d= .slice (a.map rW) spare)(b:Rows.uptoBulkAll [d]<=1048576):a.length<=1048576:=by
 rcases h with rfl|⟨spare,rfl⟩
 ·simp
 ·have c:=Et (H:=H) a;rw[Rows.uptoBulkAll,Rows.uptoBulk]at b;omega
def Ga {H:Type}:∀a:List CP,(a.map (·.s.size)).sum<=Rows.uptoBulkAll (a.map (rW (H:=H)))
 |[]=>iZ _
 |o::a=>by
  have b:=aj7 (H:=H) o
  have c:=Ga (H:=H) a
  rw[uI,uI,Rows.uptoBulkAll,List.sum_cons]
  omega
def a15 {H:Type}{d:DataW H}{a:List CP}(h:a=[]\/∃spare,d= .slice (a.map rW) spare)(b:Rows.uptoBulkAll [d]<=1048576):(a.map (·.s.size)).sum<=1048576:=by
 rcases h with rfl|⟨spare,rfl⟩
 ·simp
 ·have c:=Ga (H:=H) a;rw[Rows.uptoBulkAll,Rows.uptoBulk]at b;omega
def ad8:laidOutB Tryz.prog=true:=by kernel_rfl
def Mr:mapsRowed Tryz.prog=true:=by kernel_rfl
def Iu:∀t e,t<Tryz.prog.types.size->Tryz.prog.underlying t=some (.slice e)->0<Tryz.prog.cellsOf e:=slices_full_of Tryz.prog (by kernel_rfl)
def Jf:22<Tryz.prog.types.size:=DW (by kernel_rfl)
def a02 (c:O W W'){p:MemPlace}(hp:p.block<W.heap.size):W.sameAt W' p:=by
 cases p with
 |cell b off=>exact vF (a:=(U b off)) (c.block b hp (fun x=>x))
 |map b=>exact c.block b hp (fun x=>x)
def Lv (a:O W W'){b off:Nat}(c:b<W.heap.size):W'.frozen? (U b off)=W.frozen? (U b off):=by simp only[World.frozen?,a.block b c (fun x=>x)]
def ZY {H:Type}{enc:TypeId×aK->H}{d:DataW H}{a:List MemPlace}(e:O W W')(h:DataW.Trod enc Tryz.prog W 0 (fun _=>true) true 22 v d a)(b:∀p∈a,p.block<W.heap.size){f:Nat->Bool}(c:∀p∈a,f p.block=true):DataW.Trod enc Tryz.prog W' 0 f true 22 v d a:=by
 obtain⟨n,hn⟩:=h;have i:DataW.Trod enc Tryz.prog W' 0 (fun _=>true) true 22 v d a:=⟨n,DataW.trod_carry n _ _ _ hn (fun p hp=>a02 e (b p hp))⟩
 exact i.respare (kids_rows ad8 Mr) Iu Jf c
set_option maxRecDepth 100000 in
def Ct {H:Type}{enc:TypeId×aK->H}{fn:Func}{s:ChangeSpec}{fresh c again:Bool}{d:DataW H}{l:List MemPlace}(hp:fn.params=#[22])(J:fn.resultTypes=#[4])(K:s.vars=[])(r:s.fn H [d]={ results:=[.lit (.bool true)],args:=[d] })(u:DataW.Whole enc Tryz.prog fn.params.toList s.vars false W #[v].toList [d] [] l)(a:O W W'):s.post enc Tryz.prog fn false fresh c again W #[v] (.bool true) W':=by
 have f:=u.lt;have o:=u;obtain⟨p,q,F,G,rfl,A,hn⟩:=u;rw[K]at G;obtain⟨_,rfl⟩:=trodVars_none G;rw[bG]at f A o;rw[hp]at F;obtain⟨v0,S,T,L,p0,X,C,D,rfl,M,N⟩:=trodAll_cons F;obtain⟨rfl,rfl,rfl⟩:=trodAll_nil N;simp only[sN,jX]at C D;subst C D;rw[bG]at f A o;have R:Below W.heap.size W W':=⟨a.os,a.tape,a.output,a.size,fun k hk=>a.block k hk (fun x=>x)⟩
 have e:∀j:Nat->Bool,(∀p∈p0,j p.block=true)->DataW.TrodAll enc Tryz.prog W' 0 j true fn.params.toList #[v].toList (s.fn H ([d]++[])).args p0:=fun j z=>by
  rw[bG,r,hp];have:=trodAll_cons_mk (ZY a M f z) (trodAll_mk0 (enc:=enc) (P:=Tryz.prog) (w:=W') (base:=0) (spare:=j) (held:=true));simpa using this
 have m:∀(b:Nat) (j:Nat->Bool) (I:Bool),DataW.TrodAll enc Tryz.prog W' b j I fn.resultTypes.toList ((Value.bool true).resultList fn.resultTypes.size) (s.fn H ([d]++[])).results []:=fun b j I=>by
  rw[bG,r,J];exact trodAll_cons_mk (shut_bool Tryz.underlying4 _) trodAll_mk0
 have i:∀j:Nat->Bool,DataW.TrodVars enc Tryz.prog W' j s.vars (s.fn H ([d]++[])).vars []:=fun j=>by
  rw[bG,r,K];rfl
 refine⟨[d],[],p0,[],p0,[],o,m _ _ _,e _ (fun p hp=>by simpa using f p hp),i _,R.frame _,fun _=> ?_⟩;refine⟨ok_one J rfl (okWide_bool_mk Tryz.underlying4 _),_,_,([]++p0)++[],⟨[]++p0,[],trodAll_append (e _ (fun _ _=>rfl)) (m _ _ _),i _,rfl,?_,?_⟩,?_⟩
 ·intro b off hp;have t:MemPlace.cell b off∈p0:=by simpa using hp
  have y:b<W.heap.size:=f _ t;rw[Lv a y];exact A b off t
 ·intro Q;cases Q
 ·intro p hp _;simpa using hp
end Go.Proofs.YtbpahojchgpdnaaGreatDoor
