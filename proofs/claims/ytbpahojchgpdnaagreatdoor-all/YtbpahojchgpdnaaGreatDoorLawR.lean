import Derived.Test.YtbpahojchgpdnaaGreatDoorReadE
import Derived.Test.YtbpahojchgpdnaaGreatDoorArgs
import Derived.Test.YtbpahojchgpdnaaGreatDoorSortB
set_option maxRecDepth 20000
set_option maxHeartbeats 4000000
set_option linter.all false
namespace Go.Proofs.YtbpahojchgpdnaaGreatDoor
open Go.RowKit Go.dM Go.Proofs.Tryz
variable {e k used:Nat} {nm out:aD}
def ZV (k:Nat)(s:bY)(most:Int)(e:Nat)(out:aD)(used:Nat)(nm:aD)(hk:k<=2)(b:s.size<=140737488351232)(h:xV k (bytesOf s) (asked most) e out used nm)(w:aH):Calls prog 67 #[V k, .string s,V most] w fun r w'=>∃j,r= .returned (.agg #[V e,j,V used, .string (eP nm)])/\w'.ownsRow w.heap.size 5 1 j out.length (jR out)/\O w w':=by
 have l:k=0\/k=1\/k=2:=by omega
 unfold xV at h;rcases l with rfl|rfl|rfl
 ·unfold dV at h;rw[aA (show(MJ 0 (asked most)).i=bi 0 from rfl)]at h;obtain⟨n,g,o1,a,c,h⟩:=h;have c:eZ (bytesOf s) n (rQ (asked most)) g o1 a:=c;by_cases d:g=0
  ·subst d;rw[aA rfl]at h;obtain⟨rfl,rfl,m,rfl⟩:=h;have f:CO 0 0 a=used:=(by unfold CO;rw[aA rfl];omega);have:=YO n 0 most s out a w sM b c;rw[f]at this;exact this
  ·rw[aB d]at h;obtain⟨rfl,rfl,rfl,rfl⟩:=h;have f:CO 0 e a=0:=(by unfold CO;rw[aB d]);have:=YO n e most s out a w sM b c;rw[f]at this;exact this
 ·unfold dV at h;rw[aB (show¬(MJ 1 (asked most)).i=bi 1 from(by decide:¬(0:Nat)=bi 1)),aB (by omega),aA rfl]at h;obtain⟨⟨_,h⟩,rfl⟩:=h;exact Ee e most s out used w sM b h (Wv h).1
 ·rw[ZF rfl]at h;exact Hu e most s out used nm w sM b h.2 (U7 h.2).1
def Ia {most:Nat}{B:aD}(hk:k<=2)(h:xV k B most e out used nm):out.length<=most:=by
 have f:k=0\/k=1\/k=2:=by omega
 unfold xV at h;rcases f with rfl|rfl|rfl
 ·unfold dV at h;rw[aA (show(MJ 0 most).i=bi 0 from rfl)]at h;obtain⟨n,b,o1,g,a,h⟩:=h;have a:eZ B n (rQ most) b o1 g:=a;have d:=a.most (by simp[rQ]);by_cases c:b=0
  ·rw[aA c]at h;rw[h.2.1];exact d
  ·rw[aB c]at h;rw[h.2.1];exact d
 ·unfold dV at h;rw[aB (show¬(MJ 1 most).i=bi 1 from(by decide:¬(0:Nat)=bi 1)),aB (by omega),aA rfl]at h;exact af6 h.1.2
 ·rw[ZF rfl]at h;exact(U7 h.2).2.2
def ar1 (hk:k<=2)(B:aD)(most:Nat):∃e out used nm,xV k B most e out used nm:=by
 have c:k=0\/k=1\/k=2:=by omega
 rcases c with rfl|rfl|rfl
 ·obtain⟨n,e,out,q,a⟩:=O9 B (xS B (qJ most 0)+1) (qJ most 0) (by simp[qJ]) (by omega);have d:=(OP a).2.1;simp only[ae4];by_cases b:e=0
  ·exact⟨0,out,q/8,[],n,e,out,q,a,by rw[aA b];exact⟨rfl,rfl,by omega,rfl⟩⟩
  ·exact⟨e,out,0,[],n,e,out,q,a,by rw[aB b];exact⟨rfl,rfl,rfl,rfl⟩⟩
 ·obtain⟨e,out,used,h⟩:=ak2 B most;exact⟨e,out,used,[],by rw[Yd];exact⟨⟨rfl,h⟩,rfl⟩⟩
 ·obtain⟨e,out,used,nm,h⟩:=ad7 B most;exact⟨e,out,used,nm,by rw[Yi];exact⟨rfl,h⟩⟩
def Nw (k g cap:Nat)(most:Int)(B:aD)(w:aH)(hk:k<=2)(q:Go.dM.ay5 w g 0 B)(s:g<w.heap.size)(o:bL w)(l:4<=w.heap.size)(m:iR B)(n:B.length<=8388608)(h:xV k B (asked most) e out used nm):Calls prog 25 #[V k, .slice (some (U g 0)) B.length cap,V most] w fun r w'=>∃a,r= .returned (.agg #[V e,a,V used, .string (eP nm)])/\w'.ownsRow w.heap.size 5 1 a out.length (jR out)/\O w w':=by have c:=ag4 k g 0 cap most B w hk q s o l m n;rw[ZN (by omega)]at c;apply c.mono;rintro r w' ⟨u,d,b,t,a,rfl,f,i,j⟩;obtain⟨rfl,rfl,rfl,rfl⟩:=Xu hk B (asked most) _ _ _ _ _ _ _ _ h f;exact⟨a,rfl,i,j⟩
def Yw (k:Nat)(b:bY)(most:Int)(hk:k<=2)(j:b.size<=1048576):Q9 (k:Nat) b most:=by obtain⟨e,out,used,nm,h⟩:=ar1 hk (bytesOf b) (asked most);refine⟨e,used,out,eP nm,bB (Ia hk h) (vW most),fun g cap w d f c a=> ?_,fun w=>ZV k b most e out used nm hk (by omega) h w⟩;rw[<-bytesOf_length b];exact Nw k g cap most (bytesOf b) w hk d f c a (fun y i=>pV b y i) (by rw[bytesOf_length];omega) h
def Og (wrap:Int)(b:bY)(most:Int)(a:b.size<=1048576):Q9 wrap b most:=by
 by_cases h:0<=wrap/\wrap<=2
 ·obtain⟨k,rfl⟩:∃k:Nat,wrap=(k:Int):=⟨wrap.toNat,by omega⟩
  exact Yw k b most (by omega) a
 ·exact Vv wrap b most (by omega) (by omega) (by omega)
structure Pl where
 pb:Nat
 Rb:Nat
 k:Nat
 most:Int
 sx:bY
 tx:Nat
 B:aD
 pre:aD
 e:Nat
 used:Nat
 nm:aD
 Own:Nat->Prop
def Pl.cells (p:Pl):Array aK:=#[E p.Rb,V (p.k:Nat),V p.most, .string p.sx,V (p.tx:Nat)]
def BN (p:Pl):aK:=(E p.pb)
def Pl.ok (p:Pl):Prop:=bytesOf p.sx=p.B/\p.tx=p.pre.length
def oC (pls:List Pl)(b:Nat):Prop:=∃p∈pls,p.Own b
def Pv (p q:Pl):Prop:=p.pb≠q.pb/\∀b,p.Own b->¬q.Own b
structure LS (n0:Nat)(F:Nat->Prop)(w:aH)(wb:Nat)(ps v:aK)(hs:List Hd)(pls:List Pl):Prop where
 k:xZ w 4 wb ps v hs F
 au8:∀b,F b->¬oC pls b
 row:w.ownsRow 4 85 1 ps pls.length (pls.map BN)
 blk:∀p∈pls,w.heap[p.pb]? =some (.cells p.cells 87 (0,0))
 rd:∀p∈pls,p.k<=2/\Rd p.k (asked p.most) w p.Rb p.B p.pre p.e p.used p.nm p.Own
 few:pls.length<=4
 apart:pls.Pairwise Pv
 sep:∀b,oC pls b->wb<b/\v.ownBlock≠some b/\ps.ownBlock≠some b/\∀p∈pls,p.pb≠b
 order:bL w
 w4:4<=wb
 low:n0<=wb/\(∀b,v.ownBlock=some b->n0<=b)/\(∀b,ps.ownBlock=some b->n0<=b)/\∀p∈pls,wb<p.pb
variable {n0:Nat} {F:Nat->Prop} {w w':aH} {wb:Nat} {ps v:aK} {hs:List Hd} {pls:List Pl}
def LS.lt (h:LS n0 F w wb ps v hs pls){b:Nat}(a:oC pls b):4<=b/\b<w.heap.size:=by obtain⟨p,hp,a⟩:=a;exact(h.rd p hp).2.lt a
def LS.Wx (h:LS n0 F w wb ps v hs pls):wb<w.heap.size:=aO h.k.blk
def LS.w0 (h:LS n0 F w wb ps v hs pls):4<=w.heap.size:=by have:=h.Wx;have:=h.w4;omega
def LS.ltF (h:LS n0 F w wb ps v hs pls):LS n0 (fun b=>F b/\b<w.heap.size) w wb ps v hs pls:=⟨h.k.ltF,fun b x=>h.au8 b x.1,h.row,h.blk,h.rd,h.few,h.apart,h.sep,h.order,h.w4,h.low⟩
def LS.step0 (h:LS n0 F w wb ps v hs pls)(st:O w w'):LS n0 F w' wb ps v hs pls:=⟨h.k.step0 st,h.au8,eX h.row st (fun _ _ x=>x),fun p hp=>st.at_ (h.blk p hp) (fun x=>x),fun p hp=>⟨(h.rd p hp).1,(h.rd p hp).2.frame st (fun _ x=>x.elim)⟩,h.few,h.apart,h.sep,h.order.step st (fun _ _ x=>x),h.w4,h.low⟩
def LS.kept (h:LS n0 F w wb ps v hs pls){C vb:aK}{f:List Hd}{q:Nat->Prop}{S:Nat->Prop}(K:xZ w' 4 wb ps C f q)(J:∀b,q b->¬oC pls b)(D:∀b,C.ownBlock=some b->v.ownBlock=some b\/w.heap.size<=b)(st:Step S w w')(n:∀j,S j->j=wb\/v.ownBlock=some j\/vb.ownBlock=some j)(g:∀b,vb.ownBlock=some b->¬oC pls b/\4<=b/\n0<=b)(l:∀b,vb.ownBlock=some b->b<w.heap.size->∃A,w.heap[b]? =some (.cells A 5 (0,0))):LS n0 q w' wb ps C f pls:=by
 have i:∀b,v.ownBlock=some b->∃A,w.heap[b]? =some (.cells A 89 (0,0)):=fun b a=>nN h.k.own a;have u:∀b,ps.ownBlock=some b->∃A,w.heap[b]? =some (.cells A 85 (0,0)):=fun b a=>nN h.row a;have key:∀(b t:Nat) (A:Array aK),w.heap[b]? =some (.cells A t (0,0))->t≠70->t≠89->t≠5->¬S b:=fun b t A a N P Q x=>by
  have one:∀(m:Array aK) (B:Nat),w.heap[b]? =some (.cells m B (0,0))->t=B:=fun m B r=>by
   rw[a]at r;simp only[fH,uK]at r;exact r.2.1
  rcases n b x with y|y|y
  ·exact N (one _ _ (by rw[y];exact h.k.blk))
  ·obtain⟨m,c⟩:=i b y;exact P (one _ _ c)
  ·obtain⟨m,c⟩:=l b y (aO a);exact Q (one _ _ c)
 have R:=st.size;have M:=h.Wx;have d:∀j,S j->4<=j:=fun j x=>by
  rcases n j x with y|y|y
  ·rw[y];exact h.w4
  ·exact(h.k.own.lt j y).1
  ·exact(g j y).2.1
 refine⟨K,J,eX h.row st (fun b a=> ?_),fun p hp=>st.at_ (h.blk p hp) (key _ _ _ (h.blk p hp) (by decide) (by decide) (by decide)),fun p hp=>⟨(h.rd p hp).1,(h.rd p hp).2.frame st (fun j o L=> ?_)⟩,h.few,h.apart,fun b a=> ?_,h.order.step st (fun j o x=>by have:=d j x;omega),h.w4,h.low.1,fun b a=> ?_,h.low.2.2⟩
 ·obtain⟨A,c⟩:=u b a;exact key _ _ _ c (by decide) (by decide) (by decide)
 ·have s:¬p.Own j:=fun x=>by
   have I:=h.sep j ⟨p,hp,x⟩;rcases n j o with y|y|y
   ·omega
   ·exact I.2.1 y
   ·exact(g j y).1 ⟨p,hp,x⟩
  refine⟨d j o,s,?_⟩;rcases n j o with y|y|y
  ·rw[y];exact⟨_,_,h.k.blk,by decide⟩
  ·obtain⟨A,c⟩:=i j y;exact⟨_,_,c,by decide⟩
  ·obtain⟨A,c⟩:=l j y L;exact⟨_,_,c,by decide⟩
 ·obtain⟨a1,a2,G,H⟩:=h.sep b a;refine⟨a1,fun y=> ?_,G,H⟩;rcases D b y with z|z
  ·exact a2 z
  ·have:=(h.lt a).2;omega
 ·rcases D b a with y|y
  ·exact h.low.2.1 b y
  ·have:=h.low.1;omega
variable {l1 l2:List Pl} {p p':Pl}
def Pp (h:(l1++p::l2).Pairwise Pv)(f:p'.pb=p.pb)(m:∀q∈l1++l2,∀b,p'.Own b->q.Own b->p.Own b):(l1++p'::l2).Pairwise Pv:=by
 rw[zD]at h|-
 obtain⟨a,b,c⟩:=h;rw[qV]at b|-
 refine⟨a,⟨fun q n=> ?_,b.2⟩,fun x i y l=> ?_⟩
 ·have:=b.1 q n;exact⟨by rw[f];exact this.1,fun j g d=>this.2 j (m q (iF.2 (.inr n)) j g d) d⟩
 ·rcases fE.1 l with rfl|l
  ·have:=c x i p (List.mem_cons_self ..);exact⟨by rw[f];exact this.1,fun j g d=>this.2 j g (m x (iF.2 (.inl i)) j d g)⟩
  ·exact c x i y (List.mem_cons_of_mem _ l)
def kG {q:Pl}(h:q∈l1++p'::l2):q=p'\/q∈l1++l2:=by
 rcases iF.1 h with h|h
 ·exact .inr (iF.2 (.inl h))
 ·rcases fE.1 h with h|h
  ·exact .inl h
  ·exact .inr (iF.2 (.inr h))
def fU {q:Pl}(h:q∈l1++l2):q∈l1++p::l2:=by
 rcases iF.1 h with h|h
 ·exact iF.2 (.inl h)
 ·exact iF.2 (.inr (List.mem_cons_of_mem _ h))
def dR:p∈l1++p::l2:=iF.2 (.inr (List.mem_cons_self ..))
def XH (h:(l1++p::l2).Pairwise Pv){q:Pl}(d:q∈l1++l2):p.pb≠q.pb/\∀b,p.Own b->¬q.Own b:=by
 rw[zD]at h;obtain⟨a,b,c⟩:=h;rw[qV]at b;rcases iF.1 d with d|d
 ·have:=c q d p (List.mem_cons_self ..);exact⟨fun e=>this.1 e.symm,fun j x y=>this.2 j y x⟩
 ·exact b.1 q d
def LS.wrote (h:LS n0 F w wb ps v hs (l1++p::l2)){S:Nat->Prop}(st:Step S w w')(o:∀j,S j->p.Own j/\LU w j){B pre:aD}{c:Nat->Prop}(K:Rd p.k (asked p.most) w' p.Rb B pre e used nm c)(C:∀j,c j->p.Own j\/w.heap.size<=j)(r:∀b,F b->b<w.heap.size):LS n0 F w' wb ps v hs (l1++{ p with B:=B,pre:=pre,e:=e,used:=used,nm:=nm,Own:=c }::l2):=by
 obtain⟨p',f⟩:∃p':Pl,p'={ p with B:=B,pre:=pre,e:=e,used:=used,nm:=nm,Own:=c }:=⟨_,rfl⟩
 rw[<-f];have m:p'.pb=p.pb:=by rw[f]
 have z:p'.Own=c:=by rw[f]
 have e3:p'.cells=p.cells:=by rw[f];rfl
 have i:∀b,oC (l1++p'::l2) b->oC (l1++p::l2) b\/w.heap.size<=b:=fun b d=>by
  obtain⟨q,a,d⟩:=d;rcases kG a with rfl|a
  ·rw[z]at d;exact(C b d).imp (fun x=>⟨p,dR,x⟩) id
  ·exact .inl ⟨q,fU a,d⟩
 have g:∀j,S j->oC (l1++p::l2) j:=fun j l=>⟨p,dR,(o j l).1⟩
 have L:=h.Wx;have N:=st.size;have n:∀j,S j->wb<j/\v.ownBlock≠some j/\ps.ownBlock≠some j/\∀q∈l1++p::l2,q.pb≠j:=fun j l=>h.sep j (g j l);refine⟨⟨st.at_ h.k.blk (fun x=>by have:=(n wb x).1;omega),eX h.k.own st (fun b d x=>(n b x).2.1 d),fun q a=> ?_⟩,fun b d x=> ?_,?_,fun q a=> ?_,fun q a=> ?_,?_,Pp h.apart m (fun q a b d s=> ?_),fun b d=> ?_,h.order.step st (fun j l x=>by have:=(h.lt (g j x)).1;omega),h.w4,h.low.1,h.low.2.1,h.low.2.2.1,fun q a=> ?_⟩
 ·obtain⟨a1,a2⟩:=h.k.each q a;refine⟨a1.step st (fun x=> ?_) (fun k hk x=>h.au8 k (a2 k hk) (g k x)),a2⟩;obtain⟨A,t,b1,_,G⟩:=(o _ x).2;have:=a1.hold.blk;rw[b1]at this;simp only[fH,uK]at this;exact G this.2.1
 ·rcases i b x with y|y
  ·exact h.au8 b d y
  ·have:=r b d;omega
 ·have J:=eX h.row st (fun b d x=>(n b x).2.2.1 d);have H:(l1++p'::l2).map BN=(l1++p::l2).map BN:=by simp[BN,m]
  have I:(l1++p'::l2).length=(l1++p::l2).length:=by simp
  rw[H,I];exact J
 ·rcases kG a with rfl|a
  ·rw[m,e3];exact st.at_ (h.blk p dR) (fun x=>(n _ x).2.2.2 p dR rfl)
  ·exact st.at_ (h.blk q (fU a)) (fun x=>(n _ x).2.2.2 q (fU a) rfl)
 ·rcases kG a with rfl|a
  ·rw[f];exact⟨(h.rd p dR).1,K⟩
  ·refine⟨(h.rd q (fU a)).1,(h.rd q (fU a)).2.frame st (fun j l _=> ?_)⟩;exact⟨(h.lt (g j l)).1,(XH h.apart a).2 j (o j l).1,(o j l).2.b⟩
 ·have:=h.few;simpa using this
 ·rcases C b (by rw[<-z];exact d)with y|y
  ·exact y
  ·have:=((h.rd q (fU a)).2.lt s).2;omega
 ·rcases i b d with y|y
  ·obtain⟨a1,a2,D,u⟩:=h.sep b y;refine⟨a1,a2,D,fun q a=> ?_⟩;rcases kG a with rfl|a
   ·rw[m];exact u p dR
   ·exact u q (fU a)
  ·refine⟨by omega,fun x=>by have:=(h.k.own.lt b x).2;omega,fun x=>by have:=(h.row.lt b x).2;omega,fun q a=> ?_⟩;have M:q.pb<w.heap.size:=by
    rcases kG a with rfl|a
    ·rw[m];exact aO (h.blk p dR)
    ·exact aO (h.blk q (fU a))
   omega
 ·rcases kG a with rfl|a
  ·rw[m];exact h.low.2.2.2 p dR
  ·exact h.low.2.2.2 q (fU a)
def LS.Oq (h:LS n0 F w wb ps v hs (l1++p::l2))(sx:bY)(tx:Nat)(st:Step (·=p.pb) w w')(c:w'.heap[p.pb]? =some (.cells ({ p with sx:=sx,tx:=tx }:Pl).cells 87 (0,0))):LS n0 F w' wb ps v hs (l1++{ p with sx:=sx,tx:=tx }::l2):=by
 obtain⟨p',f⟩:∃p':Pl,p'={ p with sx:=sx,tx:=tx }:=⟨_,rfl⟩
 rw[<-f]at c|-
 have m:p'.pb=p.pb:=by rw[f]
 have u:p'.Own=p.Own:=by rw[f]
 have o:=h.blk p dR;have g:∀b,oC (l1++p'::l2) b->oC (l1++p::l2) b:=fun b d=>by
  obtain⟨q,a,d⟩:=d;rcases kG a with rfl|a
  ·rw[u]at d;exact⟨p,dR,d⟩
  ·exact⟨q,fU a,d⟩
 have one:∀{b t:Nat} {A:Array aK},w.heap[b]? =some (.cells A t (0,0))->t≠87->b≠p.pb:=fun{b t A} l K x=>by
  rw[x,o]at l;simp only[fH,uK]at l;exact K l.2.1.symm
 have M:=h.Wx;have i:=h.low;have L:=h.w4;refine⟨⟨st.at_ h.k.blk (one h.k.blk (by decide)),eX h.k.own st (fun b c x=>by obtain⟨A,l⟩:=nN h.k.own c;exact one l (by decide) x),fun q a=> ?_⟩,fun b c x=>h.au8 b c (g b x),?_,fun q a=> ?_,fun q a=> ?_,?_,Pp h.apart m (fun q a b c I=>by rw[<-u];exact c),fun b c=> ?_,h.order.step st (fun j y x=> ?_),h.w4,h.low.1,h.low.2.1,h.low.2.2.1,fun q a=> ?_⟩
 ·obtain⟨a1,a2⟩:=h.k.each q a;refine⟨a1.step st (fun x=>one a1.hold.blk (by decide) x) (fun k hk x=> ?_),a2⟩;obtain⟨B,H⟩:=a1.row k hk;exact one H (by decide) x
 ·have G:=eX h.row st (fun b c x=>by obtain⟨A,l⟩:=nN h.row c;exact one l (by decide) x);have C:(l1++p'::l2).map BN=(l1++p::l2).map BN:=by simp[BN,m]
  have D:(l1++p'::l2).length=(l1++p::l2).length:=by simp
  rw[C,D];exact G
 ·rcases kG a with rfl|a
  ·rw[m];exact c
  ·exact st.at_ (h.blk q (fU a)) (fun x=>(XH h.apart a).1 x.symm)
 ·have n:∀r∈l1++p::l2,∀j,j=p.pb->j<w.heap.size->4<=j/\¬r.Own j/\CG w j:=fun r J j y N=>by
   subst y;refine⟨?_,fun x=>(h.sep _ ⟨r,J,x⟩).2.2.2 p dR rfl,_,_,o,by decide⟩;have:=i.2.2.2 p dR;omega
  rcases kG a with rfl|a
  ·rw[f];exact⟨(h.rd p dR).1,(h.rd p dR).2.frame st (n p dR)⟩
  ·exact⟨(h.rd q (fU a)).1,(h.rd q (fU a)).2.frame st (n q (fU a))⟩
 ·have:=h.few;simpa using this
 ·obtain⟨a1,a2,z,s⟩:=h.sep b (g b c);refine⟨a1,a2,z,fun q a=> ?_⟩;rcases kG a with rfl|a
  ·rw[m];exact s p dR
  ·exact s q (fU a)
 ·have:=i.2.2.2 p dR;omega
 ·rcases kG a with rfl|a
  ·rw[m];exact h.low.2.2.2 p dR
  ·exact h.low.2.2.2 q (fU a)
def LZ (x y:bY):bytesOf (x++y)=bytesOf x++bytesOf y:=by simp[bytesOf]
variable {n0:Nat} {F:Nat->Prop} {w:aH} {wb:Nat} {ps v:aK} {hs:List Hd} {l1 l2:List Pl} {p:Pl}
structure Wr1 (n0:Nat)(F:Nat->Prop)(w w2:aH)(wb:Nat)(ps v:aK)(hs:List Hd)(l1 l2:List Pl)(p':Pl)(s:bY)(vo:aK)(ys:aD):Prop where
 ls:LS n0 F w2 wb ps v hs (l1++p'::l2)
 off:∀j,vo.ownBlock=some j->¬oC (l1++p'::l2) j
 row:Taken w2 (w.heap.size+1) vo ys
 aF3:bA w2 w.heap.size 5 (s.size+8) (jS s)
 aF2:¬oC (l1++p'::l2) w.heap.size
 step:Step (fun j=>n0<=j) w w2
def Wr1.step0 {w2 w3:aH}{p':Pl}{s:bY}{a:aK}{ys:aD}(h:Wr1 n0 F w w2 wb ps v hs l1 l2 p' s a ys)(st:O w2 w3):Wr1 n0 F w w3 wb ps v hs l1 l2 p' s a ys:=⟨h.ls.step0 st,h.off,fJ h.row st (fun _ _ x=>x),h.aF3.step st (fun x=>x),h.aF2,h.step.trans (st.mono (fun _ x=>x.elim))⟩
def ax6 (h:LS n0 F w wb ps v hs (l1++p::l2))(i:p.ok)(s:bY)(P:p.sx.size+s.size<=1048576)(L:∀b,F b->b<w.heap.size){w1 W:aH}(row:bA w1 w.heap.size 5 (s.size+8) (jS s))(st:O w w1)(o:O w1 W):Calls prog 29 #[E p.Rb, .slice (some (U w.heap.size 0)) s.size (s.size+8)] W fun r w'=>∃(t:Option Addr) (len u x e:Nat) (ys:aD) (used:Nat) (nm:aD) (a:Nat->Prop),r= .returned (.tuple #[.slice t len u,V (x:Nat)])/\(len=ys.length/\x=if e=3 then 0 else e)/\Wr1 n0 F w w' wb ps v hs l1 l2 { p with B:=p.B++bytesOf s,pre:=p.pre++ys,e:=e,used:=used,nm:=nm,Own:=a } s (.slice t len u) ys:=by
 have g:=st.trans o;have X:=g.size;have N:w.heap.size<w1.heap.size:=row.lt;have Q:=o.size;have H:=h.step0 g;obtain⟨k2,D⟩:=H.rd p dR;have A:(p.B++bytesOf s).length<=4000000:=by
  rw[<-i.1,aN,bytesOf_length,bytesOf_length];omega
 have z:iR (p.B++bytesOf s):=by
  rw[<-i.1];exact(show iR (bytesOf p.sx) from fun y G=>pV _ y G).append (fun y G=>pV _ y G)
 have l:=RG (row.step o (fun x=>x)) (by omega);have c:=ac7 D w.heap.size 0 (s.size+8) (bytesOf s) l (fun x=>by omega) z A (vW _);rw[ZN (by omega),bytesOf_length]at c;apply c.mono;rintro r w' ⟨Y,e,ys,rfl,m⟩;obtain⟨used,nm,a,b1,b2,K⟩:=m.rd;obtain⟨S,c1,c2⟩:=m.step;obtain⟨t,u,J⟩:=m.row.slice;have C:=H.wrote c1 c2 b1 b2 (fun b M=>by have:=L b M;omega);have d:=(h.rd p dR).2;refine⟨t,ys.length,u,_,e,ys,used,nm,a,by rw[J],⟨rfl,rfl⟩,?_⟩;rw[<-J];refine⟨C,fun j I x=> ?_,m.row.mono (by omega),(row.step o (fun x=>x)).step c1 (fun x=> ?_),fun y=> ?_,(g.mono (fun _ x=>x.elim)).trans (c1.mono (fun j x=> ?_))⟩
 ·obtain⟨q,f,n⟩:=x;rcases kG f with rfl|f
  ·exact K j I n
  ·have R:=((h.rd q (fU f)).2.lt n).2;have T:=(m.row.lt j I).1;omega
 ·have:=(d.lt (c2 _ x).1).2;omega
 ·obtain⟨q,f,n⟩:=y;rcases kG f with rfl|f
  ·rcases b2 _ n with y|y
   ·have:=(d.lt y).2;omega
   ·omega
  ·have:=((h.rd q (fU f)).2.lt n).2;omega
 ·have:=(h.sep j ⟨p,dR,(c2 j x).1⟩).1;have:=h.low.1;omega
def Wr1.Oq {w2 w3:aH}{p':Pl}{s:bY}{f:aK}{ys:aD}(h:Wr1 n0 F w w2 wb ps v hs l1 l2 p' s f ys)(i:p'.pb<w.heap.size)(sx:bY)(tx:Nat)(st:Step (·=p'.pb) w2 w3)(g:w3.heap[p'.pb]? =some (.cells ({ p' with sx:=sx,tx:=tx }:Pl).cells 87 (0,0))):Wr1 n0 F w w3 wb ps v hs l1 l2 { p' with sx:=sx,tx:=tx } s f ys:=by
 have a:∀j,oC (l1++{ p' with sx:=sx,tx:=tx }::l2) j->oC (l1++p'::l2) j:=fun j y=>by
  obtain⟨q,c,d⟩:=y;rcases kG c with rfl|c
  ·exact⟨p',dR,d⟩
  ·exact⟨q,fU c,d⟩
 refine⟨h.ls.Oq sx tx st g,fun j b y=>h.off j b (a j y),fJ h.row st (fun j b y=>kR h.row (h.ls.blk _ dR) (by decide) (by rw[b,y])),h.aF3.step st (fun y=>by omega),fun y=>h.aF2 (a _ y),h.step.trans (st.mono (fun j y=> ?_))⟩;have l:=h.ls.low.2.2.2 _ dR;have m:=h.ls.low.1;omega
def Jk {W:aH}{base:Nat}{u:Option Addr}{f:Nat}(h:W.ownsRow base 5 1 (.slice u out.length f) out.length (jR out))(t:Nat)(s:t<=out.length):∃q r,(∀a,(Instr.slice 31 (.slice u out.length f) (some (V (t:Int))) none none).run prog a= .ok (.slice q (out.length-t) r) a)/\∀a,O W a->(convert 31 9 (.slice q (out.length-t) r)).run prog a= .ok (.string (strOf (out.drop t))) a:=by
 have o:=underlying31;obtain⟨M,hi,D,m,G⟩:=eD info5;have A:=h;have H:(0:Int)<=(t:Int):=by omega
 obtain⟨_,⟨l,hn⟩|⟨g,cap,y,l,_,hh,B,_⟩⟩:=h
 ·have C:out=[]:=kP hn;subst C;simp only[pE,nK]at l s;obtain⟨rfl,_,rfl⟩:=l;obtain rfl:t=0:=by omega
  refine⟨none,0,fun a=>by simp[Instr.slice,Instr.sliceBounds,Instr.sliceBound,asIntOf,x9 o,sizeOf,typeInfo,hi],fun a _=> ?_⟩;exact run_convert_bytes_nil a 31 5 underlying31 underlying5 0 0 9 underlying9
 ·simp only[nK]at l;obtain⟨rfl,_,rfl⟩:=l;have I:(t:Int)<=(f:Int):=by omega
  have J:(out.length:Int)<=(f:Int):=by omega
  have K:(t:Int)<=(out.length:Int):=by omega
  have b:∀off c a,O W a->(off=t\/out.length-t=0)->(convert 31 9 (.slice (some (U g off)) (out.length-t) c)).run prog a= .ok (.string (strOf (out.drop t))) a:=fun off c a i d=>
   P6 a 31 5 underlying31 underlying5 g off (out.length-t) c ((out.drop t).map (fun x:Nat=>(x:Int))) (by simp) (fun j L=>by
    rcases d with rfl|d
    ·have n:=A.cellAt (off+j) (by omega);rw[i.cell (p:=⟨g,off+j,none⟩) (v:= .int .u8 (out[off+j]?.getD 0:Nat)) (by rw[n,qM _ _ (by omega)]) (fun x=>x)];simp[List.getD,kE,kM,bV (show off+j<out.length by omega)]
    ·omega) 9 underlying9
  by_cases n:f=t
  ·subst n;have z:out.length-f=0:=(by omega);refine⟨some (U g 0),0,fun a=> ?_,fun a i=>b 0 0 a i (.inr z)⟩;simp[Instr.slice,Instr.sliceBounds,Instr.sliceBound,asIntOf,x9 o,sizeOf,typeInfo,hi,m];omega
  ·refine⟨some (U g t),f-t,fun a=> ?_,fun a i=>b t _ a i (.inl rfl)⟩;simp[Instr.slice,Instr.sliceBounds,Instr.sliceBound,asIntOf,x9 o,sizeOf,typeInfo,hi,m,s,n,Addr.add];omega
variable {n0:Nat} {F:Nat->Prop} {w:aH} {wb:Nat} {ps v:aK} {hs:List Hd} {l1 l2:List Pl} {p:Pl}
def Kw (h:LS n0 F w wb ps v hs (l1++p::l2))(af:p.ok)(s:bY)(bz:p.sx.size+s.size<=1048576)(hl:hs.length<=24000000000):Calls prog 46 #[E wb,E p.pb, .string s] w fun r w'=>r= .returned (.bool true)/\∃v' ah p' F',LS n0 F' w' wb ps v' ah (l1++p'::l2)/\p'.ok/\p'.sx.size=p.sx.size+s.size/\ah.length=hs.length+8/\Step (fun j=>n0<=j) w w':=by
 have h0:=h.ltF;have HW:=hide (fun w1 row st W hW=>ax6 h0 af s bz (fun b x=>x.2) (w1:=w1) (W:=W) row st hW);have bl:=aO (h.blk p dR);have k0:w.cell? (U p.pb 0)=some (E p.Rb):=aC (h.blk p dR) 0 _ rfl;obtain⟨co,cp⟩:s.size<=1048576/\p.sx.size<=1048576:=⟨by omega,by omega⟩
 go_enter func46,ntmps46;go_wp2_with fail;apply(Ad s w (by omega)).mono;rintro r w1 ⟨rfl,bq,au⟩;have q0:=au.cell k0 (fun x=>x);have bc:=hide (fun W hW=>HW.o w1 bq au W hW);have cv:=au.size;have cr:(0:Int)<=(s.size:Int):=by omega
 have cq:(s.size:Int)<=(s.size:Int)+8:=by omega
 go_upto_region 2 with fail;go_cut [8,9] (fun o e9 wc=>∃(va:Option Addr) (len vc x e:Nat) (ys:aD) (used:Nat) (nm:aD) (u:Nat->Prop),o= .slice va len vc/\e9=V (x:Nat)/\(len=ys.length/\x=if e=3 then 0 else e)/\Wr1 n0 (fun b=>F b/\b<w.heap.size) w wc wb ps v hs l1 l2 { p with B:=p.B++bytesOf s,pre:=p.pre++ys,e:=e,used:=used,nm:=nm,Own:=u } s (.slice va len vc) ys);case first=>
  go_region_with (first|(go_at_call 29;refine(bc.o _ ?_).mono ?_;exact(aU (fun _=>False) _).drew;rintro e w2 ⟨va,len,vc,x,e,ys,used,nm,u,rfl,J,hw⟩;have l:=hide J;clear J));all_goals
   go_wp2_with fail;go_meet
  all_goals exact⟨va,len,vc,x,e,ys,used,nm,u,rfl,rfl,l.o,hw⟩
 case rest=>
  obtain⟨va,len,vc,x,e,ys,used,nm,u,rfl,rfl,J,hw⟩:=hcut;obtain⟨w2,h⟩:=aP wc;subst h;have l:=hide J;clear J bc;obtain⟨p2,R⟩:∃p2:Pl,p2={ p with B:=p.B++bytesOf s,pre:=p.pre++ys,e:=e,used:=used,nm:=nm,Own:=u }:=⟨_,rfl⟩
  rw[<-R]at hw;have G:w2.heap[p.pb]? =some (.cells p.cells 87 (0,0)):=by
   have f:=hw.ls.blk _ dR;rw[R]at f;exact f
  have an:=aO G;have c0:w2.cell? (U p.pb 0)=some (E p.Rb):=aC G 0 _ rfl;have c1:w2.cell? (U p.pb 1)=some (V p.k):=aC G 1 _ rfl;have c2:w2.cell? (U p.pb 2)=some (V p.most):=aC G 2 _ rfl;have c3:w2.cell? (U p.pb 3)=some (.string p.sx):=aC G 3 _ rfl;have c4:w2.cell? (U p.pb 4)=some (V p.tx):=aC G 4 _ rfl;have f3:=aJ G 3;have bx:¬(9223372036854775807:Int)<(p.sx.size:Int)+(s.size:Int):=by omega
  have bk:¬9223372036854775807<p.sx.size+s.size:=by omega
  have X:=hide (show Wr1 n0 (fun b=>F b/\b<w.heap.size) w (w2.setCell (U p.pb 3) (.string (p.sx++s))) wb ps v hs l1 l2 { p2 with sx:=p.sx++s,tx:=p.tx } s (.slice va len vc) ys from by
   have e9:p2.pb=p.pb:=(by rw[R]);refine hw.Oq (by rw[e9];exact bl) (p.sx++s) p.tx (by rw[e9];exact(aU (·=p.pb) w2).setCell (p:=(U p.pb 3)) rfl _) ?_;have f:=aV G 3 (.string (p.sx++s));rw[R];simpa[Pl.cells]using f)
  have HX:=hide (show∀W,Calls prog 67 #[V p.k, .string (p.sx++s),V p.most] W fun r w'=>∃v',r= .returned (.agg #[V e,v',V used, .string (eP nm)])/\w'.ownsRow W.heap.size 5 1 v' (p.pre++ys).length (jR (p.pre++ys))/\O W w' from fun W=>by
   obtain⟨ae,ar⟩:=hw.ls.rd _ dR;have I:=ar.answer;rw[R]at I ae;refine ZV p.k (p.sx++s) p.most e (p.pre++ys) used nm ae (by rw[ByteArray.size_append];omega) ?_ W;rw[LZ,af.1];exact I)
  have H:=hide R;clear hw G R;go_upto_region 4 with fail;obtain⟨w3,aa⟩:=aP (w2.setCell (U p.pb 3) (.string (p.sx++s)));have d1:w3.cell? (U p.pb 1)=some (V p.k):=by
   have f:=aC (X.o.ls.blk _ dR) 1 _ rfl;rw[H.o]at f;rw[aa];exact f
  have d2:w3.cell? (U p.pb 2)=some (V p.most):=by
   have f:=aC (X.o.ls.blk _ dR) 2 _ rfl;rw[H.o]at f;rw[aa];exact f
  have d3:w3.cell? (U p.pb 3)=some (.string (p.sx++s)):=by
   have f:=aC (X.o.ls.blk _ dR) 3 _ rfl;rw[H.o]at f;rw[aa];exact f
  have cg:p.pb<w3.heap.size:=by rw[aa];simpa using an
  rw[<-aa]at X|-
  have n2:¬p.pb=w3.heap.size:=by omega
  have cc:¬w3.heap.size=p.pb:=by omega
  clear aa c0 c1 c2 c3 c4 f3 an bx bk q0;obtain⟨out,ag⟩:=aP (p.pre++ys);rw[<-ag]at HX;have ac:=hide ag;clear ag;go_cut [10,48] (fun q r wc=>∃R1 v1,q=(E R1)/\r= .agg #[V e,v1,V used, .string (eP nm)]/\UR w3 wc e used out (eP nm) R1 v1);case first=>
   go_region_held3 (fun w'=>w'.cell? (U p.pb 1)=some (V p.k)/\w'.cell? (U p.pb 2)=some (V p.most)/\w'.cell? (U p.pb 3)=some (.string (p.sx++s))) (go_keep)
    (first
     |(go_at_call 67;apply(HX.o w3.drew).mono;rintro e w4 ⟨v1,rfl,M,d⟩;obtain⟨cd,ce,rfl⟩:=mJ M;have k2:=d.cell (p:=(U p.pb 1)) (w:=w3.drew) d1 (fun x=>x);have k4:=d.cell (p:=(U p.pb 2)) (w:=w3.drew) d2 (fun x=>x);have k5:=d.cell (p:=(U p.pb 3)) (w:=w3.drew) d3 (fun x=>x);have hz:=d.size;have n3:¬p.pb=w4.heap.size:=(by simp at hz;omega);have cw:¬w4.heap.size=p.pb:=(by simp at hz;omega))
     |(go_at_call 67;apply(HX.o (w3.alloc (.cells EL 45)).drew).mono;rintro e w4 ⟨v1,rfl,M,d⟩;obtain⟨cd,ce,rfl⟩:=mJ M;have ad:=((aU (fun _=>False) w3).alloc (.cells EL 45)).drew;have k2:=d.cell (ad.cell d1 (fun x=>x)) (fun x=>x);have k4:=d.cell (ad.cell d2 (fun x=>x)) (fun x=>x);have k5:=d.cell (ad.cell d3 (fun x=>x)) (fun x=>x);have kz:=d.at_ (k:=w3.heap.size) (aR w3 (.cells EL 45)) (fun x=>x);have z0:=aC kz 0 _ rfl;have z1:=aC kz 1 _ rfl;have z2:=aC kz 2 _ rfl;have z3:=aC kz 3 _ rfl;have y0:=aJ kz 0;have y1:=aJ kz 1;have y2:=aJ kz 2;have y3:=aJ kz 3))
   ·go_wp2_with fail;go_meet;case rel=>exact⟨_,_,rfl,rfl,aR _ _,bH (M.alloc _) (aS _),d.size,((aU _ _).drew.trans d).alloc _⟩
   ·go_wp2_with fail;go_meet;case rel=>exact⟨_,_,rfl,rfl,UR.mk' (ad.trans d) kz (bH M ad.size) (aS _)⟩
  case rest=>
   obtain⟨R1,v1,rfl,rfl,U1⟩:=hcut;obtain⟨w4,h⟩:=aP wc;subst h;have al:=X.o.step0 U1.step;obtain⟨vx,vy,rfl⟩:=mJ U1.own;have C:w4.heap[p.pb]? =some (.cells ({ p with sx:=p.sx++s }:Pl).cells 87 (0,0)):=by
    have f:=al.ls.blk _ dR;rw[H.o]at f;exact f
   have d4:w4.cell? (U p.pb 4)=some (V p.tx):=aC C 4 _ rfl;have f4:=aJ C 4;have ch:=aO C;have cm:=aO U1.blk;have a0:=aC U1.blk 0 _ rfl;have a1:=aC U1.blk 1 _ rfl;have ct:p.pb≠R1:=fun y=>by
    have f:=U1.blk;rw[<-y,C]at f;cases f
   have av:p.tx<=out.length:=(by rw[ac.o,af.2,aN];omega);obtain⟨ta,tc,bu,aj⟩:=Jk U1.own p.tx av;have bp:out.drop p.tx=ys:=(by rw[ac.o,af.2,List.drop_left]);rw[bp]at aj;have ai:=hide (show∀W,O w4 W->(convert 31 9 (.slice va len vc)).run prog W= .ok (.string (strOf ys)) W from fun W hW=>by
    have f:=fJ al.row hW (fun _ _ x=>x);unfold Taken at f;exact qO f)
   have ap:=hide al;have az:=hide C;have bv:=hide av;clear al av bp HX C d1 d2 d3 n2 cc X;go_upto_if 52 with fail;go_cut [11] (fun t wd=>t=V (x:Nat)/\wd=w4);case first=>
    by_cases he:e=3
    ·have aw:x=0:=(by rw[l.o.2,aA he]);subst he;subst aw;go_wp2_with fail;go_meet;case rel=>exact⟨rfl,rfl⟩
    ·have aw:x=e:=(by rw[l.o.2,aB he]);have cs:((e:Int)==3)=false:=aX.2 (by omega);subst aw;go_wp2_with fail;go_meet;case rel=>exact⟨rfl,rfl⟩
   case rest=>
    obtain⟨rfl,bo⟩:=hcut;rw[bo];clear bo;have bb:=hide (TH w.heap.size s w4 ap.o.aF3 (by omega));go_wp2_with fail;apply bb.o.mono;rintro r w5 ⟨rfl,i⟩;have be:=i.at_ U1.blk (fun x=>x);have K:=i.at_ az.o (fun x=>x);have cn:=aO be;have cj:=aO K;have b1:w5.cell? (U R1 1)=some (.slice vx out.length vy):=aC be 1 _ rfl;have e4:w5.cell? (U p.pb 4)=some (V p.tx):=aC K 4 _ rfl;have f5:=aJ K 4;have z1:=ai.o w5 i;have z2:=fun n=>ai.o (w5.drewN n) (i.drewN n);have z3:=ai.o w5.drew i.drew;have y1:=aj w5 i;have y2:=fun n=>aj (w5.drewN n) (i.drewN n);have y3:=aj w5.drew i.drew;have sl:=bu;have cu:((x:Int)==(x:Int))=true:=beq_self_eq_true _;have am:=hide K;have ba:=hide i;generalize strOf ys=so at*;obtain⟨m,hm⟩:=aP (out.length-p.tx);rw[<-hm]at sl y1 y2 y3;obtain⟨no,aq⟩:=aP out.length;rw[<-aq]at sl b1;have bt:=hide aq;clear hm aq K bb i ai a0 a1 d4 f4 bv;go_wp2_with fail;go_quiet (fail);obtain⟨w6,ab⟩:=aP (w5.drewN nq);rw[<-ab];have T:O w5 w6:=(by rw[ab];exact(aU _ _).drewN _);clear ab sl y1 y2 y3 z1 z2 z3;have cl:=T.cell b1 (fun x=>x);have L:=T.at_ am.o (fun x=>x);have e6:w6.cell? (U p.pb 4)=some (V p.tx):=aC L 4 _ rfl;have f6:=aJ L 4;have ck:=aO L;have ab:=ap.o.step0 (ba.o.trans T);obtain⟨p3,ak⟩:∃p3:Pl,p3={ p with B:=p.B++bytesOf s,pre:=p.pre++ys,e:=e,used:=used,nm:=nm,Own:=u,sx:=p.sx++s,tx:=no }:=⟨_,rfl⟩
    have bw:=hide (show Wr1 n0 (fun b=>F b/\b<w.heap.size) w (w6.setCell (U p.pb 4) (V no)) wb ps v hs l1 l2 p3 s (.slice va len vc) ys from by
     have e9:({ p2 with sx:=p.sx++s,tx:=p.tx }:Pl).pb=p.pb:=(by show p2.pb=p.pb;rw[H.o]);have h8:=ab.Oq (by rw[e9];exact bl) (p.sx++s) no (w3:=w6.setCell (U p.pb 4) (V no)) (by rw[e9];exact(aU (·=p.pb) w6).setCell (p:=(U p.pb 4)) rfl _) (by
      have f:=aV L 4 (V no);rw[H.o];simpa[Pl.cells]using f)
     rw[H.o]at h8;rw[ak];exact h8)
    clear ab L b1 e4 f5 T am ba ap az H;have bs:=hide (show∀w7,w7=w6.setCell (U p.pb 4) (V no)->Calls prog 70 #[E wb, .slice (some (U w.heap.size 0)) (s.size+8) (s.size+8)] w7 fun r w8=>r= .returned (.tuple #[])/\∃v8 Y,LS n0 (KF w7 (fun b=>F b/\b<w.heap.size) (.slice (some (U w.heap.size 0)) (s.size+8) (s.size+8))) w8 wb ps v8 Y (l1++p3::l2)/\Y.length=hs.length+4/\Step (fun j=>n0<=j) w w8/\Taken w8 (w.heap.size+1) (.slice va len vc) ys/\(∀j,(Value.slice va len vc).ownBlock=some j->¬oC (l1++p3::l2) j/\j<w7.heap.size) from fun w7 e7=>by
     have c:=bw.o;rw[<-e7]at c;have D:=c.ls;have hz:=c.step.size;obtain⟨cf,ob⟩:=SA (base:=4) c.aF3 (by have:=h.w0;omega) (by unfold maxLen;omega);refine(zM 4 wb (s.size+8) ps v _ hs _ cf w7 D.k (fun k hk y=>by have:=sF hk;omega) ob D.w0 (by omega) (by omega)).mono ?_;rintro r w8 ⟨rfl,v8,Y,K8,bf,ca,ax⟩;have hB:∀b,(Value.slice (some (U w.heap.size 0)) (s.size+8) (s.size+8)).ownBlock=some b->w.heap.size=b:=fun b P=>sF P;have bj:n0<=w.heap.size:=(by have:=h.low.1;have:=h.Wx;omega);have bn:∀j,(Value.slice va len vc).ownBlock=some j->w.heap.size+1<=j/\j<w7.heap.size:=fun j N=>c.row.lt j N;refine⟨rfl,v8,Y,D.kept (vb:= .slice (some (U w.heap.size 0)) (s.size+8) (s.size+8)) K8 (fun b P y=> ?_) ca ax (fun j N=> ?_) (fun b P=> ?_) (fun b P _=>nN ob P),bf,c.step.trans (ax.mono (fun j N=> ?_)),fJ c.row ax (fun j N y=> ?_),fun j N=>⟨c.off j N,(bn j N).2⟩⟩
     ·rcases P with z|z|z
      ·exact D.au8 b z y
      ·rw[<-hB b z]at y;exact c.aF2 y
      ·have:=(D.lt y).2;omega
     ·rcases N with z|z|z
      ·exact .inr (.inr z)
      ·exact .inl z
      ·exact .inr (.inl z)
     ·rw[<-hB b P];exact⟨c.aF2,by have:=h.w0;omega,bj⟩
     ·rcases N with z|z|z
      ·have:=hB j z;omega
      ·rw[z];exact D.low.1
      ·exact D.low.2.1 j z
     ·rcases y with z|z|z
      ·have:=hB j z;have:=bn j N;omega
      ·exact kR c.row D.k.blk (by decide) (by rw[N,z])
      ·obtain⟨A,hA⟩:=nN D.k.own z;exact kR c.row hA (by decide) N)
    go_wp2_with fail;apply(bs.o _ rfl).mono;rintro r w8 ⟨rfl,v8,Y,a,bf,ao,g,Q⟩;have ay:=hide (show Calls prog 70 #[E wb, .slice va len vc] w8 fun r w9=>r= .returned (.tuple #[])/\∃v9 Z F',LS n0 F' w9 wb ps v9 Z (l1++p3::l2)/\Z.length=hs.length+8/\Step (fun j=>n0<=j) w w9 from by
     have hz:=ao.size;have hn:ys.length<=1048576:=by
      obtain⟨ae,ar⟩:=a.rd _ dR;have I:=ar.answer;rw[ak]at I ae;have h1:=Ia ae I;have h2:=vW p.most;rw[aN]at h1;exact bB (bB (Nat.le_add_left _ _) h1) h2
     have S:=g;unfold Taken at S;rw[<-l.o.1]at S;refine(zM 4 wb len ps v8 _ Y _ _ w8 a.k (fun k hk y=> ?_) (bH S (by have:=h.w0;omega)) a.w0 (by have:=l.o.1;omega) (by omega)).mono ?_
     ·have h1:=g.lt k hk;have h2:=(Q k hk).2;rcases y with z|z|z
      ·omega
      ·have:=sF z;omega
      ·omega
     ·rintro r w9 ⟨rfl,v9,Z,K9,bg,cb,br⟩;have bj:n0<=w.heap.size:=(by have:=h.low.1;have:=h.Wx;omega);refine⟨rfl,v9,Z,_,a.kept (vb:= .slice va len vc) K9 (fun b P y=> ?_) cb br (fun j N=> ?_) (fun b P=>⟨(Q b P).1,by have:=h.w0;have:=(g.lt b P).1;omega,by have:=(g.lt b P).1;omega⟩) (fun b P _=>nN S P),by omega,ao.trans (br.mono (fun j N=> ?_))⟩
      ·rcases P with z|z|z
       ·exact a.au8 b z y
       ·exact(Q b z).1 y
       ·have:=(a.lt y).2;omega
      ·rcases N with z|z|z
       ·exact .inr (.inr z)
       ·exact .inl z
       ·exact .inr (.inl z)
      ·rcases N with z|z|z
       ·have:=(g.lt j z).1;omega
       ·rw[z];exact a.low.1
       ·exact a.low.2.1 j z)
    go_wp2_with fail;apply ay.o.mono;rintro r w9 ⟨rfl,v9,Z,F',bh,bg,bm⟩;have HE:=hide (show∃v' ah p' F',LS n0 F' w9 wb ps v' ah (l1++p'::l2)/\p'.ok/\p'.sx.size=p.sx.size+s.size/\ah.length=hs.length+8/\Step (fun j=>n0<=j) w w9 from by
     refine⟨v9,Z,p3,F',bh,?_,?_,bg,bm⟩
     ·rw[ak];refine⟨?_,?_⟩
      ·show bytesOf (p.sx++s)=p.B++bytesOf s;rw[LZ,af.1]
      ·show no=(p.pre++ys).length;rw[bt.o,ac.o]
     ·rw[ak];exact ByteArray.size_append)
    go_wp2_with fail;go_ret;exact⟨rfl,HE.o⟩
variable {n0:Nat} {F:Nat->Prop} {w:aH} {wb:Nat} {ps v:aK} {hs:List Hd} {l1 l2:List Pl} {p:Pl}
def a09 (h:LS n0 F w wb ps v hs (l1++p::l2))(z:p.ok)(Y:p.sx.size<=1048576):Calls prog 47 #[E p.pb] w fun r w'=>r= .returned (.bool true)/\O w w':=by
 obtain⟨y,s⟩:=h.rd p dR;obtain⟨M,rb,m⟩:=s.blk;have i:=h.blk p dR;have Z:w.cell? (U p.pb 0)=some (E p.Rb):=aC i 0 _ rfl;have X:=aO i;have D:=hide (show∀W,Calls prog 67 #[V p.k, .string p.sx,V p.most] W fun r w'=>∃N,r= .returned (.agg #[V p.e,N,V p.used, .string (eP p.nm)])/\w'.ownsRow W.heap.size 5 1 N p.pre.length (jR p.pre)/\O W w' from fun W=>ZV p.k p.sx p.most p.e p.pre p.used p.nm y (by omega) (by rw[z.1];exact s.answer) W);have C:=hide (an5 w p.Rb p.e p.used M rb (eP p.nm) m);obtain⟨l,n⟩:∃l:Bool,l=(p.e==0):=⟨_,rfl⟩
 rw[<-n]at C;have T:((p.e:Int)==0)=l:=by
  rw[n];by_cases J:p.e=0
  ·rw[J];rfl
  ·rw[aX.2 J,aX.2 (by omega)]
 go_enter func47,ntmps47;go_wp2_with fail;apply C.o.mono;rintro r w1 ⟨rfl,f⟩;have q0:=f.cell Z (fun x=>x);have Q:=hide (aj6 w1 p.Rb _ _ M rb (eP p.nm) (f.at_ m (fun x=>x)));go_wp2_with fail;apply Q.o.mono;rintro r w3 ⟨rfl,rfl⟩;have c:=f.at_ i (fun x=>x);have G:w3.cell? (U p.pb 1)=some (V p.k):=aC c 1 _ rfl;have H:w3.cell? (U p.pb 2)=some (V p.most):=aC c 2 _ rfl;have I:w3.cell? (U p.pb 3)=some (.string p.sx):=aC c 3 _ rfl;have K:=aO c;have n2:¬p.pb=w3.heap.size:=by omega
 have aa:¬w3.heap.size=p.pb:=by omega
 generalize eP p.nm=t at*;go_upto_region 3 with fail;go_cut [6,32] (fun q r wc=>∃u v1,q=(E u)/\r= .agg #[V p.e,v1,V p.used, .string t]/\UR w3 wc p.e p.used p.pre t u v1);case first=>
  go_region_held3 (fun w'=>w'.cell? (U p.pb 1)=some (V p.k)/\w'.cell? (U p.pb 2)=some (V p.most)/\w'.cell? (U p.pb 3)=some (.string p.sx)) (go_keep)
   (first
    |(go_at_call 67;apply(D.o w3.drew).mono;rintro e w4 ⟨v1,rfl,b,a⟩;obtain⟨A,B,rfl⟩:=mJ b;have k2:=a.cell (p:=(U p.pb 1)) (w:=w3.drew) G (fun x=>x);have k4:=a.cell (p:=(U p.pb 2)) (w:=w3.drew) H (fun x=>x);have k5:=a.cell (p:=(U p.pb 3)) (w:=w3.drew) I (fun x=>x);have L:=a.size;have n3:¬p.pb=w4.heap.size:=(by simp at L;omega);have ab:¬w4.heap.size=p.pb:=(by simp at L;omega))
    |(go_at_call 67;apply(D.o (w3.alloc (.cells EL 45)).drew).mono;rintro e w4 ⟨v1,rfl,b,a⟩;obtain⟨A,B,rfl⟩:=mJ b;have d:=((aU (fun _=>False) w3).alloc (.cells EL 45)).drew;have k2:=a.cell (d.cell G (fun x=>x)) (fun x=>x);have k4:=a.cell (d.cell H (fun x=>x)) (fun x=>x);have k5:=a.cell (d.cell I (fun x=>x)) (fun x=>x);have g:=a.at_ (k:=w3.heap.size) (aR w3 (.cells EL 45)) (fun x=>x);have z0:=aC g 0 _ rfl;have z1:=aC g 1 _ rfl;have z2:=aC g 2 _ rfl;have z3:=aC g 3 _ rfl;have y0:=aJ g 0;have y1:=aJ g 1;have y2:=aJ g 2;have y3:=aJ g 3))
  ·go_wp2_with fail;go_meet;case rel=>exact⟨_,_,rfl,rfl,aR _ _,bH (b.alloc _) (aS _),a.size,((aU _ _).drew.trans a).alloc _⟩
  ·go_wp2_with fail;go_meet;case rel=>exact⟨_,_,rfl,rfl,UR.mk' (d.trans a) g (bH b d.size) (aS _)⟩
 case rest=>
  obtain⟨u,v1,rfl,rfl,j⟩:=hcut;obtain⟨w4,h⟩:=aP wc;subst h;obtain⟨vx,vy,rfl⟩:=mJ j.own;have R:=aO j.blk;have a0:=aC j.blk 0 _ rfl;have a2:=aC j.blk 2 _ rfl;have a3:=aC j.blk 3 _ rfl;have P:=hide (f.trans j.step);have S:(l==l)=true:=beq_self_eq_true _;go_wp2_with fail;go_ret;exact⟨rfl,P.o⟩
variable {n0:Nat} {F:Nat->Prop} {w w2 w5:aH} {wb:Nat} {ps v:aK} {hs:List Hd} {pls:List Pl}
def Fb (pb Rb k:Nat)(most:Int)(Own:Nat->Prop):Pl:=⟨pb,Rb,k,most,⟨#[]⟩,0,[],[],3,0,[],Own⟩
def LS.joined (h:LS n0 F w wb ps v hs pls)(N:∀b,F b->b<w.heap.size)(J:pls.length<4)(st:O w w2){Rb:Nat}{most:Int}{Own:Nat->Prop}(hk:k<=2)(K:Rd k (asked most) w2 Rb [] [] 3 0 [] Own)(f:∀j,Own j->w.heap.size<=j){pb:Nat}{o:aK}(S:w2.heap.size<=pb)(G:w5.heap[pb]? =some (.cells (Fb pb Rb k most Own).cells 87 (0,0)))(B:w5.ownsRow 4 85 1 o (pls.length+1) (pls.map BN++[(E pb)]))(u:∀b,o.ownBlock=some b->ps.ownBlock=some b\/w2.heap.size<=b)(P:w5.heap[wb]? =some (.cells #[o,v] 70 (0,0)))(i:Step (fun j=>j=wb\/ps.ownBlock=some j) w2 w5):LS n0 F w5 wb o v hs (pls++[Fb pb Rb k most Own]):=by
 have l:=h.step0 st;have Y:=st.size;have Z:=i.size;have T:=h.Wx;have g:∀b,oC (pls++[Fb pb Rb k most Own]) b->oC pls b\/Own b:=fun b d=>by
  obtain⟨q,c,d⟩:=d;rcases iF.1 c with c|c
  ·exact .inl ⟨q,c,d⟩
  ·rw[qB]at c;rw[c]at d;exact .inr d
 have key:∀(b t:Nat) (A:Array aK),w2.heap[b]? =some (.cells A t (0,0))->t≠70->t≠85->¬(b=wb\/ps.ownBlock=some b):=fun b t A d W X x=>by
  have one:∀(C:Array aK) (H:Nat),w2.heap[b]? =some (.cells C H (0,0))->t=H:=fun C H D=>by
   rw[d]at D;simp only[fH,uK]at D;exact D.2.1
  rcases x with x|x
  ·exact W (one _ _ (by rw[x];exact l.k.blk))
  ·obtain⟨C,r⟩:=nN l.row x;exact X (one _ _ r)
 have n:∀j,(j=wb\/ps.ownBlock=some j)->4<=j/\j<w.heap.size:=fun j x=>by
  rcases x with x|x
  ·have:=h.w4;omega
  ·exact⟨(h.row.lt j x).1,(h.row.lt j x).2⟩
 have s:∀j,(j=wb\/ps.ownBlock=some j)->CG w2 j:=fun j x=>by
  rcases x with x|x
  ·rw[x];exact⟨_,_,l.k.blk,by decide⟩
  ·obtain⟨A,r⟩:=nN l.row x;exact⟨_,_,r,by decide⟩
 refine⟨⟨P,eX l.k.own i (fun b d=> ?_),fun q c=> ?_⟩,fun b d x=> ?_,?_,fun q c=> ?_,fun q c=> ?_,by rw[aN,oH];omega,?_,fun b d=> ?_,l.order.step i (fun j m x=>by have:=(n j x).1;omega),h.w4,h.low.1,h.low.2.1,fun b d=> ?_,fun q c=> ?_⟩
 ·obtain⟨A,r⟩:=nN l.k.own d;exact key _ _ _ r (by decide) (by decide)
 ·obtain⟨a1,a2⟩:=l.k.each q c;refine⟨a1.step i (key _ _ _ a1.hold.blk (by decide) (by decide)) (fun k hk=> ?_),a2⟩;obtain⟨L,R⟩:=a1.row k hk;exact key _ _ _ R (by decide) (by decide)
 ·rcases g b x with y|y
  ·exact h.au8 b d y
  ·have:=f b y;have:=N b d;omega
 ·rw[aN,oH,sS];exact B
 ·rcases iF.1 c with c|c
  ·exact i.at_ (l.blk q c) (key _ _ _ (l.blk q c) (by decide) (by decide))
  ·rw[qB]at c;rw[c];exact G
 ·rcases iF.1 c with c|c
  ·refine⟨(l.rd q c).1,(l.rd q c).2.frame i (fun j m _=>⟨(n j m).1,fun x=> ?_,s j m⟩)⟩;have M:=h.sep j ⟨q,c,x⟩;rcases m with y|y
   ·omega
   ·exact M.2.2.1 y
  ·rw[qB]at c;rw[c];refine⟨hk,K.frame i (fun j m _=>⟨(n j m).1,fun x=> ?_,s j m⟩)⟩;have:=f j x;have:=(n j m).2;omega
 ·rw[zD];refine⟨h.apart,List.pairwise_singleton _ _,fun a I b d=> ?_⟩;rw[qB]at d;rw[d];refine⟨fun e=> ?_,fun j m x=> ?_⟩
  ·have:=aO (h.blk a I);have e:a.pb=pb:=e;omega
  ·have:=(h.lt ⟨a,I,m⟩).2;have:=f j x;omega
 ·have Q:b<w2.heap.size:=by
   rcases g b d with y|y
   ·have:=(h.lt y).2;omega
   ·exact(K.lt y).2
  refine⟨?_,?_,fun x=> ?_,fun q c=> ?_⟩
  ·rcases g b d with y|y
   ·exact(h.sep b y).1
   ·have:=f b y;omega
  ·rcases g b d with y|y
   ·exact(h.sep b y).2.1
   ·intro x;have:=(h.k.own.lt b x).2;have:=f b y;omega
  ·rcases u b x with z|z
   ·rcases g b d with y|y
    ·exact(h.sep b y).2.2.1 z
    ·have:=(h.row.lt b z).2;have:=f b y;omega
   ·omega
  ·rcases iF.1 c with c|c
   ·rcases g b d with y|y
    ·exact(h.sep b y).2.2.2 q c
    ·have:=aO (h.blk q c);have:=f b y;omega
   ·rw[qB]at c;rw[c];show pb≠b;omega
 ·have:=h.low.1;rcases u b d with z|z
  ·exact h.low.2.2.1 b z
  ·omega
 ·rcases iF.1 c with c|c
  ·exact h.low.2.2.2 q c
  ·rw[qB]at c;rw[c];show wb<pb;omega
def Er (c:Int)(n:Nat)(g: -9223372036854775808<=c)(i:c<=9223372036854775807)(hn:0<n)(f:n<=4294967296):∃k:Nat,k<n/\∀w:aH,Calls prog 45 #[V c,V n] w fun e w'=>e= .returned (V k)/\w'=w:=by
 have a:¬(n:Int)=0:=by omega
 have b:((n:Int)==0)=false:=aX.2 a;by_cases j:c<0;focus
  obtain⟨m,l⟩:∃m:Nat,-(c+1)=(m:Int):=⟨(-(c+1)).toNat,by omega⟩
 rotate_left;focus
  obtain⟨m,rfl⟩:∃m:Nat,c=(m:Int):=⟨c.toNat,by omega⟩
 all_goals
  have d:=hide (show(m:Int)%(n:Int)=((m%n:Nat):Int) by simp);refine⟨m%n,wK m hn,fun w=> ?_⟩;go_enter func45,ntmps45;go_wp2;go_ret;first|exact⟨rfl,rfl⟩|exact⟨by rw[<-d.o];rfl,rfl⟩
end Go.Proofs.YtbpahojchgpdnaaGreatDoor
