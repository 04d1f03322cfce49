import Derived.Test.YtbpahojchgpdnaaGreatDoorReadE
import Derived.Test.YtbpahojchgpdnaaGreatDoorArgs
import Derived.Test.YtbpahojchgpdnaaGreatDoorSortB
set_option maxRecDepth 20000
set_option maxHeartbeats 4000000
set_option linter.all false
namespace Go.Proofs.YtbpahojchgpdnaaGreatDoor
open Go.RowKit Go.dM Go.Proofs.Tryz
variable {e k used:Nat} {nm out:aD}
def ZV (k:Nat)(s:bY)(most:Int)(e:Nat)(out:aD)(used:Nat)(nm:aD)(hk:k<=2)(c:s.size<=140737488351232)(h:xV k (bytesOf s) (asked most) e out used nm)(w:aH):Calls prog 67 #[V k, .string s,V most] w fun r w'=>∃j,r= .returned (.agg #[V e,j,V used, .string (eP nm)])/\w'.ownsRow w.heap.size 5 1 j out.length (jR out)/\O w w':=by
 have l:k=0\/k=1\/k=2:=by omega
 unfold xV at h;rcases l with rfl|rfl|rfl
 ·unfold dV at h;rw[aA (show(MJ 0 (asked most)).i=bi 0 from rfl)]at h;obtain⟨n,g,o1,a,b,h⟩:=h;have b:eZ (bytesOf s) n (rQ (asked most)) g o1 a:=b;by_cases f:g=0
  ·subst f;rw[aA rfl]at h;obtain⟨rfl,rfl,m,rfl⟩:=h;have d:CO 0 0 a=used:=(by unfold CO;rw[aA rfl];omega);have:=YO n 0 most s out a w sM c b;rw[d]at this;exact this
  ·rw[aB f]at h;obtain⟨rfl,rfl,rfl,rfl⟩:=h;have d:CO 0 e a=0:=(by unfold CO;rw[aB f]);have:=YO n e most s out a w sM c b;rw[d]at this;exact this
 ·unfold dV at h;rw[aB (show¬(MJ 1 (asked most)).i=bi 1 from(by decide:¬(0:Nat)=bi 1)),aB (by omega),aA rfl]at h;obtain⟨⟨_,h⟩,rfl⟩:=h;exact Ee e most s out used w sM c h (Wv h).1
 ·rw[ZF rfl]at h;exact Hu e most s out used nm w sM c h.2 (U7 h.2).1
def Ia {most:Nat}{B:aD}(hk:k<=2)(h:xV k B most e out used nm):out.length<=most:=by
 have f:k=0\/k=1\/k=2:=by omega
 unfold xV at h;rcases f with rfl|rfl|rfl
 ·unfold dV at h;rw[aA (show(MJ 0 most).i=bi 0 from rfl)]at h;obtain⟨n,c,o1,g,a,h⟩:=h;have a:eZ B n (rQ most) c o1 g:=a;have b:=a.most (by simp[rQ]);by_cases d:c=0
  ·rw[aA d]at h;rw[h.2.1];exact b
  ·rw[aB d]at h;rw[h.2.1];exact b
 ·unfold dV at h;rw[aB (show¬(MJ 1 most).i=bi 1 from(by decide:¬(0:Nat)=bi 1)),aB (by omega),aA rfl]at h;exact af6 h.1.2
 ·rw[ZF rfl]at h;exact(U7 h.2).2.2
def ar1 (hk:k<=2)(B:aD)(most:Nat):∃e out used nm,xV k B most e out used nm:=by
 have c:k=0\/k=1\/k=2:=by omega
 rcases c with rfl|rfl|rfl
 ·obtain⟨n,e,out,q,a⟩:=O9 B (xS B (qJ most 0)+1) (qJ most 0) (by simp[qJ]) (by omega);have d:=(OP a).2.1;simp only[ae4];by_cases b:e=0
  ·exact⟨0,out,q/8,[],n,e,out,q,a,by rw[aA b];exact⟨rfl,rfl,by omega,rfl⟩⟩
  ·exact⟨e,out,0,[],n,e,out,q,a,by rw[aB b];exact⟨rfl,rfl,rfl,rfl⟩⟩
 ·obtain⟨e,out,used,h⟩:=ak2 B most;exact⟨e,out,used,[],by rw[Yd];exact⟨⟨rfl,h⟩,rfl⟩⟩
 ·obtain⟨e,out,used,nm,h⟩:=ad7 B most;exact⟨e,out,used,nm,by rw[Yi];exact⟨rfl,h⟩⟩
def Nw (k g cap:Nat)(most:Int)(B:aD)(w:aH)(hk:k<=2)(i:Go.dM.Src w g 0 B)(m:g<w.heap.size)(s:bL w)(l:4<=w.heap.size)(f:iR B)(o:B.length<=8388608)(h:xV k B (asked most) e out used nm):Calls prog 25 #[V k, .slice (some (U g 0)) B.length cap,V most] w fun r w'=>∃a,r= .returned (.agg #[V e,a,V used, .string (eP nm)])/\w'.ownsRow w.heap.size 5 1 a out.length (jR out)/\O w w':=by have c:=ag4 k g 0 cap most B w hk i m s l f o;rw[ZN (by omega)]at c;apply c.mono;rintro r w' ⟨u,d,b,q,a,rfl,n,t,j⟩;obtain⟨rfl,rfl,rfl,rfl⟩:=Xu hk B (asked most) _ _ _ _ _ _ _ _ h n;exact⟨a,rfl,t,j⟩
def Yw (k:Nat)(b:bY)(most:Int)(hk:k<=2)(j:b.size<=1048576):Q9 (k:Nat) b most:=by obtain⟨e,out,used,nm,h⟩:=ar1 hk (bytesOf b) (asked most);refine⟨e,used,out,eP nm,bB (Ia hk h) (vW most),fun g cap w a f i c=> ?_,fun w=>ZV k b most e out used nm hk (by omega) h w⟩;rw[<-bytesOf_length b];exact Nw k g cap most (bytesOf b) w hk a f i c (fun y d=>pV b y d) (by rw[bytesOf_length];omega) h
def Og (wrap:Int)(b:bY)(most:Int)(a:b.size<=1048576):Q9 wrap b most:=by
 by_cases h:0<=wrap/\wrap<=2
 ·obtain⟨k,rfl⟩:∃k:Nat,wrap=(k:Int):=⟨wrap.toNat,by omega⟩
  exact Yw k b most (by omega) a
 ·exact Vv wrap b most (by omega) (by omega) (by omega)
structure Pl where
 pb:Nat
 Rb:Nat
 k:Nat
 most:Int
 sx:bY
 tx:Nat
 B:aD
 pre:aD
 e:Nat
 used:Nat
 nm:aD
 Own:Nat->Prop
def Pl.cells (p:Pl):Array aK:=#[E p.Rb,V (p.k:Nat),V p.most, .string p.sx,V (p.tx:Nat)]
def BN (p:Pl):aK:=(E p.pb)
def Pl.ok (p:Pl):Prop:=bytesOf p.sx=p.B/\p.tx=p.pre.length
def oC (pls:List Pl)(b:Nat):Prop:=∃p∈pls,p.Own b
def Pv (p q:Pl):Prop:=p.pb≠q.pb/\∀b,p.Own b->¬q.Own b
structure LS (n0:Nat)(F:Nat->Prop)(w:aH)(wb:Nat)(ps v:aK)(hs:List Hd)(pls:List Pl):Prop where
 k:xZ w 4 wb ps v hs F
 au8:∀b,F b->¬oC pls b
 row:w.ownsRow 4 85 1 ps pls.length (pls.map BN)
 blk:∀p∈pls,w.heap[p.pb]? =some (.cells p.cells 87 (0,0))
 rd:∀p∈pls,p.k<=2/\Rd p.k (asked p.most) w p.Rb p.B p.pre p.e p.used p.nm p.Own
 few:pls.length<=4
 apart:pls.Pairwise Pv
 sep:∀b,oC pls b->wb<b/\v.ownBlock≠some b/\ps.ownBlock≠some b/\∀p∈pls,p.pb≠b
 order:bL w
 w4:4<=wb
 low:n0<=wb/\(∀b,v.ownBlock=some b->n0<=b)/\(∀b,ps.ownBlock=some b->n0<=b)/\∀p∈pls,wb<p.pb
variable {n0:Nat} {F:Nat->Prop} {w w':aH} {wb:Nat} {ps v:aK} {hs:List Hd} {pls:List Pl}
def LS.lt (h:LS n0 F w wb ps v hs pls){b:Nat}(a:oC pls b):4<=b/\b<w.heap.size:=by obtain⟨p,hp,a⟩:=a;exact(h.rd p hp).2.lt a
def LS.Wx (h:LS n0 F w wb ps v hs pls):wb<w.heap.size:=aO h.k.blk
def LS.w0 (h:LS n0 F w wb ps v hs pls):4<=w.heap.size:=by have:=h.Wx;have:=h.w4;omega
def LS.ltF (h:LS n0 F w wb ps v hs pls):LS n0 (fun b=>F b/\b<w.heap.size) w wb ps v hs pls:=⟨h.k.ltF,fun b x=>h.au8 b x.1,h.row,h.blk,h.rd,h.few,h.apart,h.sep,h.order,h.w4,h.low⟩
def LS.step0 (h:LS n0 F w wb ps v hs pls)(st:O w w'):LS n0 F w' wb ps v hs pls:=⟨h.k.step0 st,h.au8,eX h.row st (fun _ _ x=>x),fun p hp=>st.at_ (h.blk p hp) (fun x=>x),fun p hp=>⟨(h.rd p hp).1,(h.rd p hp).2.frame st (fun _ x=>x.elim)⟩,h.few,h.apart,h.sep,h.order.step st (fun _ _ x=>x),h.w4,h.low⟩
def LS.kept (h:LS n0 F w wb ps v hs pls){s vb:aK}{f:List Hd}{C:Nat->Prop}{S:Nat->Prop}(K:xZ w' 4 wb ps s f C)(H:∀b,C b->¬oC pls b)(D:∀b,s.ownBlock=some b->v.ownBlock=some b\/w.heap.size<=b)(st:Step S w w')(m:∀j,S j->j=wb\/v.ownBlock=some j\/vb.ownBlock=some j)(d:∀b,vb.ownBlock=some b->¬oC pls b/\4<=b/\n0<=b)(l:∀b,vb.ownBlock=some b->b<w.heap.size->∃A,w.heap[b]? =some (.cells A 5 (0,0))):LS n0 C w' wb ps s f pls:=by
 have g:∀b,v.ownBlock=some b->∃A,w.heap[b]? =some (.cells A 89 (0,0)):=fun b a=>nN h.k.own a;have r:∀b,ps.ownBlock=some b->∃A,w.heap[b]? =some (.cells A 85 (0,0)):=fun b a=>nN h.row a;have key:∀(b t:Nat) (A:Array aK),w.heap[b]? =some (.cells A t (0,0))->t≠70->t≠89->t≠5->¬S b:=fun b t A a N L Q x=>by
  have one:∀(n:Array aK) (q:Nat),w.heap[b]? =some (.cells n q (0,0))->t=q:=fun n q u=>by
   rw[a]at u;simp only[fH,uK]at u;exact u.2.1
  rcases m b x with y|y|y
  ·exact N (one _ _ (by rw[y];exact h.k.blk))
  ·obtain⟨n,c⟩:=g b y;exact L (one _ _ c)
  ·obtain⟨n,c⟩:=l b y (aO a);exact Q (one _ _ c)
 have R:=st.size;have P:=h.Wx;have i:∀j,S j->4<=j:=fun j x=>by
  rcases m j x with y|y|y
  ·rw[y];exact h.w4
  ·exact(h.k.own.lt j y).1
  ·exact(d j y).2.1
 refine⟨K,H,eX h.row st (fun b a=> ?_),fun p hp=>st.at_ (h.blk p hp) (key _ _ _ (h.blk p hp) (by decide) (by decide) (by decide)),fun p hp=>⟨(h.rd p hp).1,(h.rd p hp).2.frame st (fun j o J=> ?_)⟩,h.few,h.apart,fun b a=> ?_,h.order.step st (fun j o x=>by have:=i j x;omega),h.w4,h.low.1,fun b a=> ?_,h.low.2.2⟩
 ·obtain⟨A,c⟩:=r b a;exact key _ _ _ c (by decide) (by decide) (by decide)
 ·have B:¬p.Own j:=fun x=>by
   have G:=h.sep j ⟨p,hp,x⟩;rcases m j o with y|y|y
   ·omega
   ·exact G.2.1 y
   ·exact(d j y).1 ⟨p,hp,x⟩
  refine⟨i j o,B,?_⟩;rcases m j o with y|y|y
  ·rw[y];exact⟨_,_,h.k.blk,by decide⟩
  ·obtain⟨A,c⟩:=g j y;exact⟨_,_,c,by decide⟩
  ·obtain⟨A,c⟩:=l j y J;exact⟨_,_,c,by decide⟩
 ·obtain⟨a1,a2,M,I⟩:=h.sep b a;refine⟨a1,fun y=> ?_,M,I⟩;rcases D b y with z|z
  ·exact a2 z
  ·have:=(h.lt a).2;omega
 ·rcases D b a with y|y
  ·exact h.low.2.1 b y
  ·have:=h.low.1;omega
variable {l1 l2:List Pl} {p p':Pl}
def Pp (h:(l1++p::l2).Pairwise Pv)(f:p'.pb=p.pb)(m:∀q∈l1++l2,∀b,p'.Own b->q.Own b->p.Own b):(l1++p'::l2).Pairwise Pv:=by
 rw[zD]at h|-
 obtain⟨a,b,c⟩:=h;rw[qV]at b|-
 refine⟨a,⟨fun q n=> ?_,b.2⟩,fun x i y l=> ?_⟩
 ·have:=b.1 q n;exact⟨by rw[f];exact this.1,fun j g d=>this.2 j (m q (iF.2 (.inr n)) j g d) d⟩
 ·rcases fE.1 l with rfl|l
  ·have:=c x i p (List.mem_cons_self ..);exact⟨by rw[f];exact this.1,fun j g d=>this.2 j g (m x (iF.2 (.inl i)) j d g)⟩
  ·exact c x i y (List.mem_cons_of_mem _ l)
def kG {q:Pl}(h:q∈l1++p'::l2):q=p'\/q∈l1++l2:=by
 rcases iF.1 h with h|h
 ·exact .inr (iF.2 (.inl h))
 ·rcases fE.1 h with h|h
  ·exact .inl h
  ·exact .inr (iF.2 (.inr h))
def fU {q:Pl}(h:q∈l1++l2):q∈l1++p::l2:=by
 rcases iF.1 h with h|h
 ·exact iF.2 (.inl h)
 ·exact iF.2 (.inr (List.mem_cons_of_mem _ h))
def dR:p∈l1++p::l2:=iF.2 (.inr (List.mem_cons_self ..))
def XH (h:(l1++p::l2).Pairwise Pv){q:Pl}(d:q∈l1++l2):p.pb≠q.pb/\∀b,p.Own b->¬q.Own b:=by
 rw[zD]at h;obtain⟨a,b,c⟩:=h;rw[qV]at b;rcases iF.1 d with d|d
 ·have:=c q d p (List.mem_cons_self ..);exact⟨fun e=>this.1 e.symm,fun j x y=>this.2 j y x⟩
 ·exact b.1 q d
def LS.wrote (h:LS n0 F w wb ps v hs (l1++p::l2)){S:Nat->Prop}(st:Step S w w')(o:∀j,S j->p.Own j/\LU w j){B pre:aD}{c:Nat->Prop}(D:Rd p.k (asked p.most) w' p.Rb B pre e used nm c)(C:∀j,c j->p.Own j\/w.heap.size<=j)(s:∀b,F b->b<w.heap.size):LS n0 F w' wb ps v hs (l1++{ p with B:=B,pre:=pre,e:=e,used:=used,nm:=nm,Own:=c }::l2):=by
 obtain⟨p',f⟩:∃p':Pl,p'={ p with B:=B,pre:=pre,e:=e,used:=used,nm:=nm,Own:=c }:=⟨_,rfl⟩
 rw[<-f];have m:p'.pb=p.pb:=by rw[f]
 have u:p'.Own=c:=by rw[f]
 have e3:p'.cells=p.cells:=by rw[f];rfl
 have i:∀b,oC (l1++p'::l2) b->oC (l1++p::l2) b\/w.heap.size<=b:=fun b d=>by
  obtain⟨q,a,d⟩:=d;rcases kG a with rfl|a
  ·rw[u]at d;exact(C b d).imp (fun x=>⟨p,dR,x⟩) id
  ·exact .inl ⟨q,fU a,d⟩
 have g:∀j,S j->oC (l1++p::l2) j:=fun j l=>⟨p,dR,(o j l).1⟩
 have L:=h.Wx;have N:=st.size;have n:∀j,S j->wb<j/\v.ownBlock≠some j/\ps.ownBlock≠some j/\∀q∈l1++p::l2,q.pb≠j:=fun j l=>h.sep j (g j l);refine⟨⟨st.at_ h.k.blk (fun x=>by have:=(n wb x).1;omega),eX h.k.own st (fun b d x=>(n b x).2.1 d),fun q a=> ?_⟩,fun b d x=> ?_,?_,fun q a=> ?_,fun q a=> ?_,?_,Pp h.apart m (fun q a b d r=> ?_),fun b d=> ?_,h.order.step st (fun j l x=>by have:=(h.lt (g j x)).1;omega),h.w4,h.low.1,h.low.2.1,h.low.2.2.1,fun q a=> ?_⟩
 ·obtain⟨a1,a2⟩:=h.k.each q a;refine⟨a1.step st (fun x=> ?_) (fun k hk x=>h.au8 k (a2 k hk) (g k x)),a2⟩;obtain⟨A,t,b1,_,G⟩:=(o _ x).2;have:=a1.hold.blk;rw[b1]at this;simp only[fH,uK]at this;exact G this.2.1
 ·rcases i b x with y|y
  ·exact h.au8 b d y
  ·have:=s b d;omega
 ·have I:=eX h.row st (fun b d x=>(n b x).2.2.1 d);have J:(l1++p'::l2).map BN=(l1++p::l2).map BN:=by simp[BN,m]
  have H:(l1++p'::l2).length=(l1++p::l2).length:=by simp
  rw[J,H];exact I
 ·rcases kG a with rfl|a
  ·rw[m,e3];exact st.at_ (h.blk p dR) (fun x=>(n _ x).2.2.2 p dR rfl)
  ·exact st.at_ (h.blk q (fU a)) (fun x=>(n _ x).2.2.2 q (fU a) rfl)
 ·rcases kG a with rfl|a
  ·rw[f];exact⟨(h.rd p dR).1,D⟩
  ·refine⟨(h.rd q (fU a)).1,(h.rd q (fU a)).2.frame st (fun j l _=> ?_)⟩;exact⟨(h.lt (g j l)).1,(XH h.apart a).2 j (o j l).1,(o j l).2.b⟩
 ·have:=h.few;simpa using this
 ·rcases C b (by rw[<-u];exact d)with y|y
  ·exact y
  ·have:=((h.rd q (fU a)).2.lt r).2;omega
 ·rcases i b d with y|y
  ·obtain⟨a1,a2,K,z⟩:=h.sep b y;refine⟨a1,a2,K,fun q a=> ?_⟩;rcases kG a with rfl|a
   ·rw[m];exact z p dR
   ·exact z q (fU a)
  ·refine⟨by omega,fun x=>by have:=(h.k.own.lt b x).2;omega,fun x=>by have:=(h.row.lt b x).2;omega,fun q a=> ?_⟩;have M:q.pb<w.heap.size:=by
    rcases kG a with rfl|a
    ·rw[m];exact aO (h.blk p dR)
    ·exact aO (h.blk q (fU a))
   omega
 ·rcases kG a with rfl|a
  ·rw[m];exact h.low.2.2.2 p dR
  ·exact h.low.2.2.2 q (fU a)
def LS.Oq (h:LS n0 F w wb ps v hs (l1++p::l2))(sx:bY)(tx:Nat)(st:Step (·=p.pb) w w')(c:w'.heap[p.pb]? =some (.cells ({ p with sx:=sx,tx:=tx }:Pl).cells 87 (0,0))):LS n0 F w' wb ps v hs (l1++{ p with sx:=sx,tx:=tx }::l2):=by
 obtain⟨p',f⟩:∃p':Pl,p'={ p with sx:=sx,tx:=tx }:=⟨_,rfl⟩
 rw[<-f]at c|-
 have o:p'.pb=p.pb:=by rw[f]
 have s:p'.Own=p.Own:=by rw[f]
 have m:=h.blk p dR;have g:∀b,oC (l1++p'::l2) b->oC (l1++p::l2) b:=fun b d=>by
  obtain⟨q,a,d⟩:=d;rcases kG a with rfl|a
  ·rw[s]at d;exact⟨p,dR,d⟩
  ·exact⟨q,fU a,d⟩
 have one:∀{b t:Nat} {A:Array aK},w.heap[b]? =some (.cells A t (0,0))->t≠87->b≠p.pb:=fun{b t A} l H x=>by
  rw[x,m]at l;simp only[fH,uK]at l;exact H l.2.1.symm
 have M:=h.Wx;have i:=h.low;have L:=h.w4;refine⟨⟨st.at_ h.k.blk (one h.k.blk (by decide)),eX h.k.own st (fun b c x=>by obtain⟨A,l⟩:=nN h.k.own c;exact one l (by decide) x),fun q a=> ?_⟩,fun b c x=>h.au8 b c (g b x),?_,fun q a=> ?_,fun q a=> ?_,?_,Pp h.apart o (fun q a b c z=>by rw[<-s];exact c),fun b c=> ?_,h.order.step st (fun j y x=> ?_),h.w4,h.low.1,h.low.2.1,h.low.2.2.1,fun q a=> ?_⟩
 ·obtain⟨a1,a2⟩:=h.k.each q a;refine⟨a1.step st (fun x=>one a1.hold.blk (by decide) x) (fun k hk x=> ?_),a2⟩;obtain⟨B,D⟩:=a1.row k hk;exact one D (by decide) x
 ·have I:=eX h.row st (fun b c x=>by obtain⟨A,l⟩:=nN h.row c;exact one l (by decide) x);have J:(l1++p'::l2).map BN=(l1++p::l2).map BN:=by simp[BN,o]
  have G:(l1++p'::l2).length=(l1++p::l2).length:=by simp
  rw[J,G];exact I
 ·rcases kG a with rfl|a
  ·rw[o];exact c
  ·exact st.at_ (h.blk q (fU a)) (fun x=>(XH h.apart a).1 x.symm)
 ·have n:∀r∈l1++p::l2,∀j,j=p.pb->j<w.heap.size->4<=j/\¬r.Own j/\CG w j:=fun r C j y N=>by
   subst y;refine⟨?_,fun x=>(h.sep _ ⟨r,C,x⟩).2.2.2 p dR rfl,_,_,m,by decide⟩;have:=i.2.2.2 p dR;omega
  rcases kG a with rfl|a
  ·rw[f];exact⟨(h.rd p dR).1,(h.rd p dR).2.frame st (n p dR)⟩
  ·exact⟨(h.rd q (fU a)).1,(h.rd q (fU a)).2.frame st (n q (fU a))⟩
 ·have:=h.few;simpa using this
 ·obtain⟨a1,a2,K,u⟩:=h.sep b (g b c);refine⟨a1,a2,K,fun q a=> ?_⟩;rcases kG a with rfl|a
  ·rw[o];exact u p dR
  ·exact u q (fU a)
 ·have:=i.2.2.2 p dR;omega
 ·rcases kG a with rfl|a
  ·rw[o];exact h.low.2.2.2 p dR
  ·exact h.low.2.2.2 q (fU a)
def LZ (x y:bY):bytesOf (x++y)=bytesOf x++bytesOf y:=by simp[bytesOf]
variable {n0:Nat} {F:Nat->Prop} {w:aH} {wb:Nat} {ps v:aK} {hs:List Hd} {l1 l2:List Pl} {p:Pl}
structure Wr1 (n0:Nat)(F:Nat->Prop)(w w2:aH)(wb:Nat)(ps v:aK)(hs:List Hd)(l1 l2:List Pl)(p':Pl)(s:bY)(vo:aK)(ys:aD):Prop where
 ls:LS n0 F w2 wb ps v hs (l1++p'::l2)
 off:∀j,vo.ownBlock=some j->¬oC (l1++p'::l2) j
 row:Taken w2 (w.heap.size+1) vo ys
 aF3:bA w2 w.heap.size 5 (s.size+8) (jS s)
 aF2:¬oC (l1++p'::l2) w.heap.size
 step:Step (fun j=>n0<=j) w w2
def Wr1.step0 {w2 w3:aH}{p':Pl}{s:bY}{a:aK}{ys:aD}(h:Wr1 n0 F w w2 wb ps v hs l1 l2 p' s a ys)(st:O w2 w3):Wr1 n0 F w w3 wb ps v hs l1 l2 p' s a ys:=⟨h.ls.step0 st,h.off,fJ h.row st (fun _ _ x=>x),h.aF3.step st (fun x=>x),h.aF2,h.step.trans (st.mono (fun _ x=>x.elim))⟩
def ax6 (h:LS n0 F w wb ps v hs (l1++p::l2))(m:p.ok)(s:bY)(P:p.sx.size+s.size<=1048576)(L:∀b,F b->b<w.heap.size){w1 W:aH}(row:bA w1 w.heap.size 5 (s.size+8) (jS s))(st:O w w1)(o:O w1 W):Calls prog 29 #[E p.Rb, .slice (some (U w.heap.size 0)) s.size (s.size+8)] W fun r w'=>∃(u:Option Addr) (len t x e:Nat) (ys:aD) (used:Nat) (nm:aD) (a:Nat->Prop),r= .returned (.tuple #[.slice u len t,V (x:Nat)])/\(len=ys.length/\x=if e=3 then 0 else e)/\Wr1 n0 F w w' wb ps v hs l1 l2 { p with B:=p.B++bytesOf s,pre:=p.pre++ys,e:=e,used:=used,nm:=nm,Own:=a } s (.slice u len t) ys:=by
 have g:=st.trans o;have T:=g.size;have Q:w.heap.size<w1.heap.size:=row.lt;have M:=o.size;have I:=h.step0 g;obtain⟨k2,z⟩:=I.rd p dR;have G:(p.B++bytesOf s).length<=4000000:=by
  rw[<-m.1,aN,bytesOf_length,bytesOf_length];omega
 have A:iR (p.B++bytesOf s):=by
  rw[<-m.1];exact(show iR (bytesOf p.sx) from fun y D=>pV _ y D).append (fun y D=>pV _ y D)
 have n:=RG (row.step o (fun x=>x)) (by omega);have c:=ac7 z w.heap.size 0 (s.size+8) (bytesOf s) n (fun x=>by omega) A G (vW _);rw[ZN (by omega),bytesOf_length]at c;apply c.mono;rintro r w' ⟨X,e,ys,rfl,i⟩;obtain⟨used,nm,a,b1,b2,K⟩:=i.rd;obtain⟨S,c1,c2⟩:=i.step;obtain⟨u,t,H⟩:=i.row.slice;have C:=I.wrote c1 c2 b1 b2 (fun b N=>by have:=L b N;omega);have d:=(h.rd p dR).2;refine⟨u,ys.length,t,_,e,ys,used,nm,a,by rw[H],⟨rfl,rfl⟩,?_⟩;rw[<-H];refine⟨C,fun j J x=> ?_,i.row.mono (by omega),(row.step o (fun x=>x)).step c1 (fun x=> ?_),fun y=> ?_,(g.mono (fun _ x=>x.elim)).trans (c1.mono (fun j x=> ?_))⟩
 ·obtain⟨q,f,l⟩:=x;rcases kG f with rfl|f
  ·exact K j J l
  ·have R:=((h.rd q (fU f)).2.lt l).2;have Y:=(i.row.lt j J).1;omega
 ·have:=(d.lt (c2 _ x).1).2;omega
 ·obtain⟨q,f,l⟩:=y;rcases kG f with rfl|f
  ·rcases b2 _ l with y|y
   ·have:=(d.lt y).2;omega
   ·omega
  ·have:=((h.rd q (fU f)).2.lt l).2;omega
 ·have:=(h.sep j ⟨p,dR,(c2 j x).1⟩).1;have:=h.low.1;omega
def Wr1.Oq {w2 w3:aH}{p':Pl}{s:bY}{f:aK}{ys:aD}(h:Wr1 n0 F w w2 wb ps v hs l1 l2 p' s f ys)(g:p'.pb<w.heap.size)(sx:bY)(tx:Nat)(st:Step (·=p'.pb) w2 w3)(i:w3.heap[p'.pb]? =some (.cells ({ p' with sx:=sx,tx:=tx }:Pl).cells 87 (0,0))):Wr1 n0 F w w3 wb ps v hs l1 l2 { p' with sx:=sx,tx:=tx } s f ys:=by
 have a:∀j,oC (l1++{ p' with sx:=sx,tx:=tx }::l2) j->oC (l1++p'::l2) j:=fun j y=>by
  obtain⟨q,b,d⟩:=y;rcases kG b with rfl|b
  ·exact⟨p',dR,d⟩
  ·exact⟨q,fU b,d⟩
 refine⟨h.ls.Oq sx tx st i,fun j c y=>h.off j c (a j y),fJ h.row st (fun j c y=>kR h.row (h.ls.blk _ dR) (by decide) (by rw[c,y])),h.aF3.step st (fun y=>by omega),fun y=>h.aF2 (a _ y),h.step.trans (st.mono (fun j y=> ?_))⟩;have m:=h.ls.low.2.2.2 _ dR;have l:=h.ls.low.1;omega
def Jk {W:aH}{base:Nat}{r:Option Addr}{f:Nat}(h:W.ownsRow base 5 1 (.slice r out.length f) out.length (jR out))(t:Nat)(s:t<=out.length):∃u q,(∀a,(Instr.slice 31 (.slice r out.length f) (some (V (t:Int))) none none).run prog a= .ok (.slice u (out.length-t) q) a)/\∀a,O W a->(convert 31 9 (.slice u (out.length-t) q)).run prog a= .ok (.string (strOf (out.drop t))) a:=by
 have o:=underlying31;obtain⟨L,hi,C,m,G⟩:=eD info5;have D:=h;have I:(0:Int)<=(t:Int):=by omega
 obtain⟨_,⟨i,hn⟩|⟨g,cap,z,i,_,hh,y,_⟩⟩:=h
 ·have B:out=[]:=kP hn;subst B;simp only[pE,nK]at i s;obtain⟨rfl,_,rfl⟩:=i;obtain rfl:t=0:=by omega
  refine⟨none,0,fun a=>by simp[Instr.slice,Instr.sliceBounds,Instr.sliceBound,asIntOf,x9 o,sizeOf,typeInfo,hi],fun a _=> ?_⟩;exact run_convert_bytes_nil a 31 5 underlying31 underlying5 0 0 9 underlying9
 ·simp only[nK]at i;obtain⟨rfl,_,rfl⟩:=i;have K:(t:Int)<=(f:Int):=by omega
  have H:(out.length:Int)<=(f:Int):=by omega
  have J:(t:Int)<=(out.length:Int):=by omega
  have b:∀off c a,O W a->(off=t\/out.length-t=0)->(convert 31 9 (.slice (some (U g off)) (out.length-t) c)).run prog a= .ok (.string (strOf (out.drop t))) a:=fun off c a l d=>
   P6 a 31 5 underlying31 underlying5 g off (out.length-t) c ((out.drop t).map (fun x:Nat=>(x:Int))) (by simp) (fun j M=>by
    rcases d with rfl|d
    ·have n:=D.cellAt (off+j) (by omega);rw[l.cell (p:=⟨g,off+j,none⟩) (v:= .int .u8 (out[off+j]?.getD 0:Nat)) (by rw[n,qM _ _ (by omega)]) (fun x=>x)];simp[List.getD,kE,kM,bV (show off+j<out.length by omega)]
    ·omega) 9 underlying9
  by_cases n:f=t
  ·subst n;have A:out.length-f=0:=(by omega);refine⟨some (U g 0),0,fun a=> ?_,fun a l=>b 0 0 a l (.inr A)⟩;simp[Instr.slice,Instr.sliceBounds,Instr.sliceBound,asIntOf,x9 o,sizeOf,typeInfo,hi,m];omega
  ·refine⟨some (U g t),f-t,fun a=> ?_,fun a l=>b t _ a l (.inl rfl)⟩;simp[Instr.slice,Instr.sliceBounds,Instr.sliceBound,asIntOf,x9 o,sizeOf,typeInfo,hi,m,s,n,Addr.add];omega
variable {n0:Nat} {F:Nat->Prop} {w:aH} {wb:Nat} {ps v:aK} {hs:List Hd} {l1 l2:List Pl} {p:Pl}
def Kw (h:LS n0 F w wb ps v hs (l1++p::l2))(ai:p.ok)(s:bY)(cg:p.sx.size+s.size<=1048576)(hl:hs.length<=24000000000):Calls prog 46 #[E wb,E p.pb, .string s] w fun r w'=>r= .returned (.bool true)/\∃v' ad p' F',LS n0 F' w' wb ps v' ad (l1++p'::l2)/\p'.ok/\p'.sx.size=p.sx.size+s.size/\ad.length=hs.length+8/\Step (fun j=>n0<=j) w w':=by
 have h0:=h.ltF;have HW:=hide (fun w1 row st W hW=>ax6 h0 ai s cg (fun b x=>x.2) (w1:=w1) (W:=W) row st hW);have bk:=aO (h.blk p dR);have k0:w.cell? (U p.pb 0)=some (E p.Rb):=aC (h.blk p dR) 0 _ rfl;obtain⟨cw,cu⟩:s.size<=1048576/\p.sx.size<=1048576:=⟨by omega,by omega⟩
 go_enter func46,ntmps46;go_wp2_with fail;apply(Ad s w (by omega)).mono;rintro r w1 ⟨rfl,bo,aw⟩;have q0:=aw.cell k0 (fun x=>x);have br:=hide (fun W hW=>HW.o w1 bo aw W hW);have cr:=aw.size;have cq:(0:Int)<=(s.size:Int):=by omega
 have cn:(s.size:Int)<=(s.size:Int)+8:=by omega
 go_upto_region 2 with fail;go_cut [8,9] (fun o e9 wc=>∃(Y:Option Addr) (len vc x e:Nat) (ys:aD) (used:Nat) (nm:aD) (u:Nat->Prop),o= .slice Y len vc/\e9=V (x:Nat)/\(len=ys.length/\x=if e=3 then 0 else e)/\Wr1 n0 (fun b=>F b/\b<w.heap.size) w wc wb ps v hs l1 l2 { p with B:=p.B++bytesOf s,pre:=p.pre++ys,e:=e,used:=used,nm:=nm,Own:=u } s (.slice Y len vc) ys);case first=>
  go_region_with (first|(go_at_call 29;apply(br.o _ ?_).mono;exact(aU (fun _=>False) _).drew;rintro e w2 ⟨Y,len,vc,x,e,ys,used,nm,u,rfl,K,hw⟩;have l:=hide K;clear K));all_goals
   go_wp2_with fail;go_meet
  all_goals exact⟨Y,len,vc,x,e,ys,used,nm,u,rfl,rfl,l.o,hw⟩
 case rest=>
  obtain⟨Y,len,vc,x,e,ys,used,nm,u,rfl,rfl,K,hw⟩:=hcut;obtain⟨w2,h⟩:=aP wc;subst h;have l:=hide K;clear K br;obtain⟨p2,P⟩:∃p2:Pl,p2={ p with B:=p.B++bytesOf s,pre:=p.pre++ys,e:=e,used:=used,nm:=nm,Own:=u }:=⟨_,rfl⟩
  rw[<-P]at hw;have G:w2.heap[p.pb]? =some (.cells p.cells 87 (0,0)):=by
   have f:=hw.ls.blk _ dR;rw[P]at f;exact f
  have an:=aO G;have c0:w2.cell? (U p.pb 0)=some (E p.Rb):=aC G 0 _ rfl;have c1:w2.cell? (U p.pb 1)=some (V p.k):=aC G 1 _ rfl;have c2:w2.cell? (U p.pb 2)=some (V p.most):=aC G 2 _ rfl;have c3:w2.cell? (U p.pb 3)=some (.string p.sx):=aC G 3 _ rfl;have c4:w2.cell? (U p.pb 4)=some (V p.tx):=aC G 4 _ rfl;have f3:=aJ G 3;have ca:¬(9223372036854775807:Int)<(p.sx.size:Int)+(s.size:Int):=by omega
  have be:¬9223372036854775807<p.sx.size+s.size:=by omega
  /- behind the store of the text -/;have ac:=hide (show Wr1 n0 (fun b=>F b/\b<w.heap.size) w (w2.setCell (U p.pb 3) (.string (p.sx++s))) wb ps v hs l1 l2 { p2 with sx:=p.sx++s,tx:=p.tx } s (.slice Y len vc) ys from by
   have e9:p2.pb=p.pb:=(by rw[P]);refine hw.Oq (by rw[e9];exact bk) (p.sx++s) p.tx (by rw[e9];exact(aU (·=p.pb) w2).setCell (p:=(U p.pb 3)) rfl _) ?_;have f:=aV G 3 (.string (p.sx++s));rw[P];simpa[Pl.cells]using f)
  /- the reference's answer -/;have HX:=hide (show∀W,Calls prog 67 #[V p.k, .string (p.sx++s),V p.most] W fun r w'=>∃v',r= .returned (.agg #[V e,v',V used, .string (eP nm)])/\w'.ownsRow W.heap.size 5 1 v' (p.pre++ys).length (jR (p.pre++ys))/\O W w' from fun W=>by
   obtain⟨af,aq⟩:=hw.ls.rd _ dR;have M:=aq.answer;rw[P]at M af;refine ZV p.k (p.sx++s) p.most e (p.pre++ys) used nm af (by rw[ByteArray.size_append];omega) ?_ W;rw[LZ,ai.1];exact M)
  have I:=hide P;clear hw G P;go_upto_region 4 with fail;obtain⟨w3,aa⟩:=aP (w2.setCell (U p.pb 3) (.string (p.sx++s)));have d1:w3.cell? (U p.pb 1)=some (V p.k):=by
   have f:=aC (ac.o.ls.blk _ dR) 1 _ rfl;rw[I.o]at f;rw[aa];exact f
  have d2:w3.cell? (U p.pb 2)=some (V p.most):=by
   have f:=aC (ac.o.ls.blk _ dR) 2 _ rfl;rw[I.o]at f;rw[aa];exact f
  have d3:w3.cell? (U p.pb 3)=some (.string (p.sx++s)):=by
   have f:=aC (ac.o.ls.blk _ dR) 3 _ rfl;rw[I.o]at f;rw[aa];exact f
  have cl:p.pb<w3.heap.size:=by rw[aa];simpa using an
  rw[<-aa]at ac|-
  have n2:¬p.pb=w3.heap.size:=by omega
  have bz:¬w3.heap.size=p.pb:=by omega
  clear aa c0 c1 c2 c3 c4 f3 an ca be q0;obtain⟨out,ae⟩:=aP (p.pre++ys);rw[<-ae]at HX;have ag:=hide ae;clear ae;go_cut [10,48] (fun q r wc=>∃R1 v1,q=(E R1)/\r= .agg #[V e,v1,V used, .string (eP nm)]/\UR w3 wc e used out (eP nm) R1 v1);case first=>
   go_region_held3 (fun w'=>w'.cell? (U p.pb 1)=some (V p.k)/\w'.cell? (U p.pb 2)=some (V p.most)/\w'.cell? (U p.pb 3)=some (.string (p.sx++s))) (go_keep)
    (first
     |(go_at_call 67;apply(HX.o w3.drew).mono;rintro e w4 ⟨v1,rfl,J,d⟩;obtain⟨ce,cd,rfl⟩:=mJ J;have k2:=d.cell (p:=(U p.pb 1)) (w:=w3.drew) d1 (fun x=>x);have k4:=d.cell (p:=(U p.pb 2)) (w:=w3.drew) d2 (fun x=>x);have k5:=d.cell (p:=(U p.pb 3)) (w:=w3.drew) d3 (fun x=>x);have hz:=d.size;have n3:¬p.pb=w4.heap.size:=(by simp at hz;omega);have ct:¬w4.heap.size=p.pb:=(by simp at hz;omega))
     |(go_at_call 67;apply(HX.o (w3.alloc (.cells EL 45)).drew).mono;rintro e w4 ⟨v1,rfl,J,d⟩;obtain⟨ce,cd,rfl⟩:=mJ J;have ah:=((aU (fun _=>False) w3).alloc (.cells EL 45)).drew;have k2:=d.cell (ah.cell d1 (fun x=>x)) (fun x=>x);have k4:=d.cell (ah.cell d2 (fun x=>x)) (fun x=>x);have k5:=d.cell (ah.cell d3 (fun x=>x)) (fun x=>x);have kz:=d.at_ (k:=w3.heap.size) (aR w3 (.cells EL 45)) (fun x=>x);have z0:=aC kz 0 _ rfl;have z1:=aC kz 1 _ rfl;have z2:=aC kz 2 _ rfl;have z3:=aC kz 3 _ rfl;have y0:=aJ kz 0;have y1:=aJ kz 1;have y2:=aJ kz 2;have y3:=aJ kz 3))
   ·go_wp2_with fail;go_meet;case rel=>exact⟨_,_,rfl,rfl,aR _ _,bH (J.alloc _) (aS _),d.size,((aU _ _).drew.trans d).alloc _⟩
   ·go_wp2_with fail;go_meet;case rel=>exact⟨_,_,rfl,rfl,UR.mk' (ah.trans d) kz (bH J ah.size) (aS _)⟩
  case rest=>
   obtain⟨R1,v1,rfl,rfl,U1⟩:=hcut;obtain⟨w4,h⟩:=aP wc;subst h;have al:=ac.o.step0 U1.step;obtain⟨vx,vy,rfl⟩:=mJ U1.own;have C:w4.heap[p.pb]? =some (.cells ({ p with sx:=p.sx++s }:Pl).cells 87 (0,0)):=by
    have f:=al.ls.blk _ dR;rw[I.o]at f;exact f
   have d4:w4.cell? (U p.pb 4)=some (V p.tx):=aC C 4 _ rfl;have f4:=aJ C 4;have ch:=aO C;have cx:=aO U1.blk;have a0:=aC U1.blk 0 _ rfl;have a1:=aC U1.blk 1 _ rfl;have cp:p.pb≠R1:=fun y=>by
    have f:=U1.blk;rw[<-y,C]at f;cases f
   have av:p.tx<=out.length:=(by rw[ag.o,ai.2,aN];omega);obtain⟨ta,tc,bx,am⟩:=Jk U1.own p.tx av;have bj:out.drop p.tx=ys:=(by rw[ag.o,ai.2,List.drop_left]);rw[bj]at am;have ak:=hide (show∀W,O w4 W->(convert 31 9 (.slice Y len vc)).run prog W= .ok (.string (strOf ys)) W from fun W hW=>by
    have f:=fJ al.row hW (fun _ _ x=>x);unfold Taken at f;exact qO f)
   have ay:=hide al;have bg:=hide C;have bu:=hide av;clear al av bj HX C d1 d2 d3 n2 bz ac;go_upto_if 52 with fail;go_cut [11] (fun t wd=>t=V (x:Nat)/\wd=w4);case first=>
    by_cases he:e=3
    ·have ar:x=0:=(by rw[l.o.2,aA he]);subst he;subst ar;go_wp2_with fail;go_meet;case rel=>exact⟨rfl,rfl⟩
    ·have ar:x=e:=(by rw[l.o.2,aB he]);have cs:((e:Int)==3)=false:=aX.2 (by omega);subst ar;go_wp2_with fail;go_meet;case rel=>exact⟨rfl,rfl⟩
   case rest=>
    obtain⟨rfl,bh⟩:=hcut;rw[bh];clear bh;have bs:=hide (TH w.heap.size s w4 ay.o.aF3 (by omega));go_wp2_with fail;apply bs.o.mono;rintro r w5 ⟨rfl,i⟩;have bl:=i.at_ U1.blk (fun x=>x);have H:=i.at_ bg.o (fun x=>x);have cv:=aO bl;have ck:=aO H;have b1:w5.cell? (U R1 1)=some (.slice vx out.length vy):=aC bl 1 _ rfl;have e4:w5.cell? (U p.pb 4)=some (V p.tx):=aC H 4 _ rfl;have f5:=aJ H 4;have z1:=ak.o w5 i;have z2:=fun n=>ak.o (w5.drewN n) (i.drewN n);have z3:=ak.o w5.drew i.drew;have y1:=am w5 i;have y2:=fun n=>am (w5.drewN n) (i.drewN n);have y3:=am w5.drew i.drew;have sl:=bx;have cm:((x:Int)==(x:Int))=true:=beq_self_eq_true _;have ao:=hide H;have ba:=hide i;generalize strOf ys=so at*;obtain⟨m,hm⟩:=aP (out.length-p.tx);rw[<-hm]at sl y1 y2 y3;obtain⟨no,ax⟩:=aP out.length;rw[<-ax]at sl b1;have bv:=hide ax;clear hm ax H bs i ak a0 a1 d4 f4 bu;go_wp2_with fail;go_quiet (fail);obtain⟨w6,Z⟩:=aP (w5.drewN nq);rw[<-Z];have T:O w5 w6:=(by rw[Z];exact(aU _ _).drewN _);clear Z sl y1 y2 y3 z1 z2 z3;have co:=T.cell b1 (fun x=>x);have L:=T.at_ ao.o (fun x=>x);have e6:w6.cell? (U p.pb 4)=some (V p.tx):=aC L 4 _ rfl;have f6:=aJ L 4;have cj:=aO L;have Z:=ay.o.step0 (ba.o.trans T);obtain⟨p3,aj⟩:∃p3:Pl,p3={ p with B:=p.B++bytesOf s,pre:=p.pre++ys,e:=e,used:=used,nm:=nm,Own:=u,sx:=p.sx++s,tx:=no }:=⟨_,rfl⟩
    have cf:=hide (show Wr1 n0 (fun b=>F b/\b<w.heap.size) w (w6.setCell (U p.pb 4) (V no)) wb ps v hs l1 l2 p3 s (.slice Y len vc) ys from by
     have e9:({ p2 with sx:=p.sx++s,tx:=p.tx }:Pl).pb=p.pb:=(by show p2.pb=p.pb;rw[I.o]);have h8:=Z.Oq (by rw[e9];exact bk) (p.sx++s) no (w3:=w6.setCell (U p.pb 4) (V no)) (by rw[e9];exact(aU (·=p.pb) w6).setCell (p:=(U p.pb 4)) rfl _) (by
      have f:=aV L 4 (V no);rw[I.o];simpa[Pl.cells]using f)
     rw[I.o]at h8;rw[aj];exact h8)
    clear Z L b1 e4 f5 T ao ba ay bg I;have bw:=hide (show∀w7,w7=w6.setCell (U p.pb 4) (V no)->Calls prog 70 #[E wb, .slice (some (U w.heap.size 0)) (s.size+8) (s.size+8)] w7 fun r w8=>r= .returned (.tuple #[])/\∃v8 ab,LS n0 (KF w7 (fun b=>F b/\b<w.heap.size) (.slice (some (U w.heap.size 0)) (s.size+8) (s.size+8))) w8 wb ps v8 ab (l1++p3::l2)/\ab.length=hs.length+4/\Step (fun j=>n0<=j) w w8/\Taken w8 (w.heap.size+1) (.slice Y len vc) ys/\(∀j,(Value.slice Y len vc).ownBlock=some j->¬oC (l1++p3::l2) j/\j<w7.heap.size) from fun w7 e7=>by
     have c:=cf.o;rw[<-e7]at c;have D:=c.ls;have hz:=c.step.size;obtain⟨cb,ob⟩:=SA (base:=4) c.aF3 (by have:=h.w0;omega) (by unfold maxLen;omega);refine(zM 4 wb (s.size+8) ps v _ hs _ cb w7 D.k (fun k hk y=>by have:=sF hk;omega) ob D.w0 (by omega) (by omega)).mono ?_;rintro r w8 ⟨rfl,v8,ab,K8,bc,bt,au⟩;have hB:∀b,(Value.slice (some (U w.heap.size 0)) (s.size+8) (s.size+8)).ownBlock=some b->w.heap.size=b:=fun b Q=>sF Q;have bq:n0<=w.heap.size:=(by have:=h.low.1;have:=h.Wx;omega);have bf:∀j,(Value.slice Y len vc).ownBlock=some j->w.heap.size+1<=j/\j<w7.heap.size:=fun j N=>c.row.lt j N;refine⟨rfl,v8,ab,D.kept (vb:= .slice (some (U w.heap.size 0)) (s.size+8) (s.size+8)) K8 (fun b Q y=> ?_) bt au (fun j N=> ?_) (fun b Q=> ?_) (fun b Q _=>nN ob Q),bc,c.step.trans (au.mono (fun j N=> ?_)),fJ c.row au (fun j N y=> ?_),fun j N=>⟨c.off j N,(bf j N).2⟩⟩
     ·rcases Q with z|z|z
      ·exact D.au8 b z y
      ·rw[<-hB b z]at y;exact c.aF2 y
      ·have:=(D.lt y).2;omega
     ·rcases N with z|z|z
      ·exact .inr (.inr z)
      ·exact .inl z
      ·exact .inr (.inl z)
     ·rw[<-hB b Q];exact⟨c.aF2,by have:=h.w0;omega,bq⟩
     ·rcases N with z|z|z
      ·have:=hB j z;omega
      ·rw[z];exact D.low.1
      ·exact D.low.2.1 j z
     ·rcases y with z|z|z
      ·have:=hB j z;have:=bf j N;omega
      ·exact kR c.row D.k.blk (by decide) (by rw[N,z])
      ·obtain⟨A,hA⟩:=nN D.k.own z;exact kR c.row hA (by decide) N)
    go_wp2_with fail;apply(bw.o _ rfl).mono;rintro r w8 ⟨rfl,v8,ab,a,bc,ap,g,R⟩;have bm:=hide (show Calls prog 70 #[E wb, .slice Y len vc] w8 fun r w9=>r= .returned (.tuple #[])/\∃v9 X F',LS n0 F' w9 wb ps v9 X (l1++p3::l2)/\X.length=hs.length+8/\Step (fun j=>n0<=j) w w9 from by
     have hz:=ap.size;have hn:ys.length<=1048576:=by
      obtain⟨af,aq⟩:=a.rd _ dR;have M:=aq.answer;rw[aj]at M af;have h1:=Ia af M;have h2:=vW p.most;rw[aN]at h1;exact bB (bB (Nat.le_add_left _ _) h1) h2
     have S:=g;unfold Taken at S;rw[<-l.o.1]at S;refine(zM 4 wb len ps v8 _ ab _ _ w8 a.k (fun k hk y=> ?_) (bH S (by have:=h.w0;omega)) a.w0 (by have:=l.o.1;omega) (by omega)).mono ?_
     ·have h1:=g.lt k hk;have h2:=(R k hk).2;rcases y with z|z|z
      ·omega
      ·have:=sF z;omega
      ·omega
     ·rintro r w9 ⟨rfl,v9,X,K9,az,cc,bp⟩;have bq:n0<=w.heap.size:=(by have:=h.low.1;have:=h.Wx;omega);refine⟨rfl,v9,X,_,a.kept (vb:= .slice Y len vc) K9 (fun b Q y=> ?_) cc bp (fun j N=> ?_) (fun b Q=>⟨(R b Q).1,by have:=h.w0;have:=(g.lt b Q).1;omega,by have:=(g.lt b Q).1;omega⟩) (fun b Q _=>nN S Q),by omega,ap.trans (bp.mono (fun j N=> ?_))⟩
      ·rcases Q with z|z|z
       ·exact a.au8 b z y
       ·exact(R b z).1 y
       ·have:=(a.lt y).2;omega
      ·rcases N with z|z|z
       ·exact .inr (.inr z)
       ·exact .inl z
       ·exact .inr (.inl z)
      ·rcases N with z|z|z
       ·have:=(g.lt j z).1;omega
       ·rw[z];exact a.low.1
       ·exact a.low.2.1 j z)
    go_wp2_with fail;apply bm.o.mono;rintro r w9 ⟨rfl,v9,X,F',bb,az,bn⟩;have HE:=hide (show∃v' ad p' F',LS n0 F' w9 wb ps v' ad (l1++p'::l2)/\p'.ok/\p'.sx.size=p.sx.size+s.size/\ad.length=hs.length+8/\Step (fun j=>n0<=j) w w9 from by
     refine⟨v9,X,p3,F',bb,?_,?_,az,bn⟩
     ·rw[aj];refine⟨?_,?_⟩
      ·show bytesOf (p.sx++s)=p.B++bytesOf s;rw[LZ,ai.1]
      ·show no=(p.pre++ys).length;rw[bv.o,ag.o]
     ·rw[aj];exact ByteArray.size_append)
    go_wp2_with fail;go_ret;exact⟨rfl,HE.o⟩
variable {n0:Nat} {F:Nat->Prop} {w:aH} {wb:Nat} {ps v:aK} {hs:List Hd} {l1 l2:List Pl} {p:Pl}
def a09 (h:LS n0 F w wb ps v hs (l1++p::l2))(A:p.ok)(aa:p.sx.size<=1048576):Calls prog 47 #[E p.pb] w fun r w'=>r= .returned (.bool true)/\O w w':=by
 obtain⟨z,l⟩:=h.rd p dR;obtain⟨C,rb,n⟩:=l.blk;have i:=h.blk p dR;have Q:w.cell? (U p.pb 0)=some (E p.Rb):=aC i 0 _ rfl;have X:=aO i;have G:=hide (show∀W,Calls prog 67 #[V p.k, .string p.sx,V p.most] W fun r w'=>∃I,r= .returned (.agg #[V p.e,I,V p.used, .string (eP p.nm)])/\w'.ownsRow W.heap.size 5 1 I p.pre.length (jR p.pre)/\O W w' from fun W=>ZV p.k p.sx p.most p.e p.pre p.used p.nm z (by omega) (by rw[A.1];exact l.answer) W);have J:=hide (an5 w p.Rb p.e p.used C rb (eP p.nm) n);obtain⟨m,t⟩:∃m:Bool,m=(p.e==0):=⟨_,rfl⟩
 rw[<-t]at J;have R:((p.e:Int)==0)=m:=by
  rw[t];by_cases H:p.e=0
  ·rw[H];rfl
  ·rw[aX.2 H,aX.2 (by omega)]
 go_enter func47,ntmps47;go_wp2_with fail;apply J.o.mono;rintro r w1 ⟨rfl,f⟩;have q0:=f.cell Q (fun x=>x);have HN:=hide (aj6 w1 p.Rb _ _ C rb (eP p.nm) (f.at_ n (fun x=>x)));go_wp2_with fail;apply HN.o.mono;rintro r w3 ⟨rfl,rfl⟩;have c:=f.at_ i (fun x=>x);have N:w3.cell? (U p.pb 1)=some (V p.k):=aC c 1 _ rfl;have D:w3.cell? (U p.pb 2)=some (V p.most):=aC c 2 _ rfl;have L:w3.cell? (U p.pb 3)=some (.string p.sx):=aC c 3 _ rfl;have K:=aO c;have n2:¬p.pb=w3.heap.size:=by omega
 have S:¬w3.heap.size=p.pb:=by omega
 generalize eP p.nm=s at*;go_upto_region 3 with fail;go_cut [6,32] (fun q r wc=>∃y v1,q=(E y)/\r= .agg #[V p.e,v1,V p.used, .string s]/\UR w3 wc p.e p.used p.pre s y v1);case first=>
  go_region_held3 (fun w'=>w'.cell? (U p.pb 1)=some (V p.k)/\w'.cell? (U p.pb 2)=some (V p.most)/\w'.cell? (U p.pb 3)=some (.string p.sx)) (go_keep)
   (first
    |(go_at_call 67;apply(G.o w3.drew).mono;rintro e w4 ⟨v1,rfl,b,a⟩;obtain⟨u,B,rfl⟩:=mJ b;have k2:=a.cell (p:=(U p.pb 1)) (w:=w3.drew) N (fun x=>x);have Y:=a.cell (p:=(U p.pb 2)) (w:=w3.drew) D (fun x=>x);have k5:=a.cell (p:=(U p.pb 3)) (w:=w3.drew) L (fun x=>x);have M:=a.size;have n3:¬p.pb=w4.heap.size:=(by simp at M;omega);have Z:¬w4.heap.size=p.pb:=(by simp at M;omega))
    |(go_at_call 67;apply(G.o (w3.alloc (.cells EL 45)).drew).mono;rintro e w4 ⟨v1,rfl,b,a⟩;obtain⟨u,B,rfl⟩:=mJ b;have d:=((aU (fun _=>False) w3).alloc (.cells EL 45)).drew;have k2:=a.cell (d.cell N (fun x=>x)) (fun x=>x);have Y:=a.cell (d.cell D (fun x=>x)) (fun x=>x);have k5:=a.cell (d.cell L (fun x=>x)) (fun x=>x);have g:=a.at_ (k:=w3.heap.size) (aR w3 (.cells EL 45)) (fun x=>x);have z0:=aC g 0 _ rfl;have z1:=aC g 1 _ rfl;have z2:=aC g 2 _ rfl;have z3:=aC g 3 _ rfl;have y0:=aJ g 0;have y1:=aJ g 1;have y2:=aJ g 2;have y3:=aJ g 3))
  ·go_wp2_with fail;go_meet;case rel=>exact⟨_,_,rfl,rfl,aR _ _,bH (b.alloc _) (aS _),a.size,((aU _ _).drew.trans a).alloc _⟩
  ·go_wp2_with fail;go_meet;case rel=>exact⟨_,_,rfl,rfl,UR.mk' (d.trans a) g (bH b d.size) (aS _)⟩
 case rest=>
  obtain⟨y,v1,rfl,rfl,j⟩:=hcut;obtain⟨w4,h⟩:=aP wc;subst h;obtain⟨vx,vy,rfl⟩:=mJ j.own;have ab:=aO j.blk;have a0:=aC j.blk 0 _ rfl;have a2:=aC j.blk 2 _ rfl;have a3:=aC j.blk 3 _ rfl;have P:=hide (f.trans j.step);have T:(m==m)=true:=beq_self_eq_true _;go_wp2_with fail;go_ret;exact⟨rfl,P.o⟩
variable {n0:Nat} {F:Nat->Prop} {w w2 w5:aH} {wb:Nat} {ps v:aK} {hs:List Hd} {pls:List Pl}
def Fb (pb Rb k:Nat)(most:Int)(Own:Nat->Prop):Pl:=⟨pb,Rb,k,most,⟨#[]⟩,0,[],[],3,0,[],Own⟩
def LS.joined (h:LS n0 F w wb ps v hs pls)(R:∀b,F b->b<w.heap.size)(J:pls.length<4)(st:O w w2){Rb:Nat}{most:Int}{Own:Nat->Prop}(hk:k<=2)(I:Rd k (asked most) w2 Rb [] [] 3 0 [] Own)(f:∀j,Own j->w.heap.size<=j){pb:Nat}{o:aK}(L:w2.heap.size<=pb)(D:w5.heap[pb]? =some (.cells (Fb pb Rb k most Own).cells 87 (0,0)))(u:w5.ownsRow 4 85 1 o (pls.length+1) (pls.map BN++[(E pb)]))(r:∀b,o.ownBlock=some b->ps.ownBlock=some b\/w2.heap.size<=b)(N:w5.heap[wb]? =some (.cells #[o,v] 70 (0,0)))(i:Step (fun j=>j=wb\/ps.ownBlock=some j) w2 w5):LS n0 F w5 wb o v hs (pls++[Fb pb Rb k most Own]):=by
 have l:=h.step0 st;have Y:=st.size;have Z:=i.size;have X:=h.Wx;have g:∀b,oC (pls++[Fb pb Rb k most Own]) b->oC pls b\/Own b:=fun b d=>by
  obtain⟨q,c,d⟩:=d;rcases iF.1 c with c|c
  ·exact .inl ⟨q,c,d⟩
  ·rw[qB]at c;rw[c]at d;exact .inr d
 have key:∀(b t:Nat) (A:Array aK),w2.heap[b]? =some (.cells A t (0,0))->t≠70->t≠85->¬(b=wb\/ps.ownBlock=some b):=fun b t A d W T x=>by
  have one:∀(H:Array aK) (C:Nat),w2.heap[b]? =some (.cells H C (0,0))->t=C:=fun H C G=>by
   rw[d]at G;simp only[fH,uK]at G;exact G.2.1
  rcases x with x|x
  ·exact W (one _ _ (by rw[x];exact l.k.blk))
  ·obtain⟨H,B⟩:=nN l.row x;exact T (one _ _ B)
 have n:∀j,(j=wb\/ps.ownBlock=some j)->4<=j/\j<w.heap.size:=fun j x=>by
  rcases x with x|x
  ·have:=h.w4;omega
  ·exact⟨(h.row.lt j x).1,(h.row.lt j x).2⟩
 have s:∀j,(j=wb\/ps.ownBlock=some j)->CG w2 j:=fun j x=>by
  rcases x with x|x
  ·rw[x];exact⟨_,_,l.k.blk,by decide⟩
  ·obtain⟨A,B⟩:=nN l.row x;exact⟨_,_,B,by decide⟩
 refine⟨⟨N,eX l.k.own i (fun b d=> ?_),fun q c=> ?_⟩,fun b d x=> ?_,?_,fun q c=> ?_,fun q c=> ?_,by rw[aN,oH];omega,?_,fun b d=> ?_,l.order.step i (fun j m x=>by have:=(n j x).1;omega),h.w4,h.low.1,h.low.2.1,fun b d=> ?_,fun q c=> ?_⟩
 ·obtain⟨A,B⟩:=nN l.k.own d;exact key _ _ _ B (by decide) (by decide)
 ·obtain⟨a1,a2⟩:=l.k.each q c;refine⟨a1.step i (key _ _ _ a1.hold.blk (by decide) (by decide)) (fun k hk=> ?_),a2⟩;obtain⟨P,Q⟩:=a1.row k hk;exact key _ _ _ Q (by decide) (by decide)
 ·rcases g b x with y|y
  ·exact h.au8 b d y
  ·have:=f b y;have:=R b d;omega
 ·rw[aN,oH,sS];exact u
 ·rcases iF.1 c with c|c
  ·exact i.at_ (l.blk q c) (key _ _ _ (l.blk q c) (by decide) (by decide))
  ·rw[qB]at c;rw[c];exact D
 ·rcases iF.1 c with c|c
  ·refine⟨(l.rd q c).1,(l.rd q c).2.frame i (fun j m _=>⟨(n j m).1,fun x=> ?_,s j m⟩)⟩;have M:=h.sep j ⟨q,c,x⟩;rcases m with y|y
   ·omega
   ·exact M.2.2.1 y
  ·rw[qB]at c;rw[c];refine⟨hk,I.frame i (fun j m _=>⟨(n j m).1,fun x=> ?_,s j m⟩)⟩;have:=f j x;have:=(n j m).2;omega
 ·rw[zD];refine⟨h.apart,List.pairwise_singleton _ _,fun a K b d=> ?_⟩;rw[qB]at d;rw[d];refine⟨fun e=> ?_,fun j m x=> ?_⟩
  ·have:=aO (h.blk a K);have e:a.pb=pb:=e;omega
  ·have:=(h.lt ⟨a,K,m⟩).2;have:=f j x;omega
 ·have S:b<w2.heap.size:=by
   rcases g b d with y|y
   ·have:=(h.lt y).2;omega
   ·exact(I.lt y).2
  refine⟨?_,?_,fun x=> ?_,fun q c=> ?_⟩
  ·rcases g b d with y|y
   ·exact(h.sep b y).1
   ·have:=f b y;omega
  ·rcases g b d with y|y
   ·exact(h.sep b y).2.1
   ·intro x;have:=(h.k.own.lt b x).2;have:=f b y;omega
  ·rcases r b x with z|z
   ·rcases g b d with y|y
    ·exact(h.sep b y).2.2.1 z
    ·have:=(h.row.lt b z).2;have:=f b y;omega
   ·omega
  ·rcases iF.1 c with c|c
   ·rcases g b d with y|y
    ·exact(h.sep b y).2.2.2 q c
    ·have:=aO (h.blk q c);have:=f b y;omega
   ·rw[qB]at c;rw[c];show pb≠b;omega
 ·have:=h.low.1;rcases r b d with z|z
  ·exact h.low.2.2.1 b z
  ·omega
 ·rcases iF.1 c with c|c
  ·exact h.low.2.2.2 q c
  ·rw[qB]at c;rw[c];show wb<pb;omega
def Er (c:Int)(n:Nat)(g: -9223372036854775808<=c)(j:c<=9223372036854775807)(hn:0<n)(d:n<=4294967296):∃k:Nat,k<n/\∀w:aH,Calls prog 45 #[V c,V n] w fun e w'=>e= .returned (V k)/\w'=w:=by
 have a:¬(n:Int)=0:=by omega
 have b:((n:Int)==0)=false:=aX.2 a;by_cases i:c<0;focus
  obtain⟨m,l⟩:∃m:Nat,-(c+1)=(m:Int):=⟨(-(c+1)).toNat,by omega⟩
 rotate_left;focus
  obtain⟨m,rfl⟩:∃m:Nat,c=(m:Int):=⟨c.toNat,by omega⟩
 all_goals
  have f:=hide (show(m:Int)%(n:Int)=((m%n:Nat):Int) by simp);refine⟨m%n,wK m hn,fun w=> ?_⟩;go_enter func45,ntmps45;go_wp2;go_ret;first|exact⟨rfl,rfl⟩|exact⟨by rw[<-f.o];rfl,rfl⟩
end Go.Proofs.YtbpahojchgpdnaaGreatDoor
