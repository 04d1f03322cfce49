import Derived.Test.YtbpahojchgpdnaaGreatDoorFound
import Derived.Test.YtbpahojchgpdnaaGreatDoorGHead
set_option maxRecDepth 20000
set_option maxHeartbeats 4000000
set_option linter.all false
namespace Go.Proofs.YtbpahojchgpdnaaGreatDoor
open Go.RowKit Go.Shelf Go.dM Go.Maps Go.Proofs.Tryz
variable {L:aD} {w:aH} {m s x:Nat}
structure mH (L:aD) where
 key:Nat
 sym:Nat
 hk:key<65536
 hs:sym<L.length
def mH.pair {L:aD}(x:mH L):Nat×Nat:=(x.key,x.sym)
def codeOf {L:aD}(a b:Nat)(h:a<65536)(k:b<L.length):mH L:=⟨a,b,h,k⟩
def am2 {L:aD}(x:mH L):Array aK:=#[.int .u32 (x.key:Nat),V (x.sym:Nat)]
def AX (L:aD):Prop:=∀l k,l<15->k<L.length->L[k]?.getD 0=l+1->(bR L (l+1) (jK L l) k).next<65536
def wB (a:∀i:Nat,L[i]?.getD 0<=15)(c:fF L=true):AX L:=fun l k b hk d=>(P8 L a c l k b hk d).2.2
def Ij (h:∀i:Nat,L[i]?.getD 0=0):AX L:=fun l k _ _ a=>by rw[h k]at a;omega
attribute [local go_sem] Oper.semAt_some
set_option maxRecDepth 100000 in
def Ul (n:Nat)(hn:1<=n)(l C g off cap:Nat)(L:aD)(Q:∀i:Nat,L[i]?.getD 0<=15)(hm:AX L)(hL:L.length<=1000)(J Jx:List (mH L)->aH->Prop)(hY:∀pre x W,J pre W->pre.length<15001->YieldAt Fence.wide (n-1) prog l (am2 x) W fun e D=>(e= .returned (.bool true)/\J (pre++[x]) D/\uO C g W D)\/(e= .returned (.bool false)/\Jx (pre++[x]) D))(W:aH)(R:W.cell? (U C 0)=some (.slice (some (U g off)) L.length cap))(hc:Ints W g off L)(h0:J [] W):CallsIn Fence.wide n prog 178 #[.func (.yield l) #[] #[],E C] W fun e D=>(∃v,e= .returned v)/\((∃ys:List (mH L),ys.map mH.pair=lU L 15/\J ys D)\/(∃pre,True/\Jx pre D)):=by
 refine GZ func178 rfl bT ?_ rfl;simp only[ntmps178,xD,iN,pE,Nat.reduceAdd,Nat.reduceSub,BS,CV,AR,CU,iO,jZ];gi_wp2;gi_loopw [3,4] (fun nx ln wr=>∃(l:Nat) (pre:List (mH L)),l<=15/\ln=V ((l:Int)+1)/\nx= .int .u32 ((bZ L l).next:Nat)/\pre.map mH.pair=lU L l/\J pre wr/\uO C g W wr) (fun _ ln _=>16-(intOf ln).toNat);case atStart=>exact⟨0,[],by omega,rfl,rfl,rfl,h0,rfl,rfl⟩
 case round=>
  obtain⟨l,pre,hl,rfl,rfl,b,t,r⟩:=hrel;have T:=DJ L hL l hl;by_cases aa:l<15
  ·have e2:((bZ L l).next:Int)*2=(((jK L l).next:Nat):Int):=(by unfold jK;dsimp only;omega);have X:=(vF (a:=(U C 0)) r.1).trans R;have H2:=hide e2;have af:(jK L l).next<=65601536:=(by unfold jK;dsimp only;omega);have HJ:=hide t;have HP:=hide b;clear e2 t b;gi_wp2;rw[H2.o,show decide ((l:Int)+1<=15)=true from eU (by omega)];gi_loopw [3,15] (fun nx i wr=>∃(k:Nat) (pre:List (mH L)),k<=L.length/\i=V k/\nx= .int .u32 ((bR L (l+1) (jK L l) k).next:Nat)/\pre.map mH.pair=lU L l++lW L (l+1) (jK L l) k/\J pre wr/\uO C g W wr) (fun _ i _=>L.length-(intOf i).toNat);case atStart=>exact⟨0,pre,by omega,rfl,rfl,by rw[lW,bG];exact HP.o,HJ.o,r⟩
   case round=>
    clear X r HJ HP;obtain⟨k,pre,hk,rfl,rfl,b,t,r⟩:=hrel;have ab:=vZ L (l+1) (jK L l) k;have c:pre.length<15001:=by
     have h1:=zR L l;have h2:=yZ L (l+1) (jK L l) k;have h4:=lZ List.length b;rw[nG,aN]at h4;have h3:l*L.length<=14*L.length:=mZ _ (by omega);omega
    by_cases d:k<L.length
    ·have z:=(r.ints hc).cell k d;have Z:=Q k;obtain⟨q,hq⟩:=aP (L[k]?.getD 0);rw[<-hq]at z Z;have H:=hide hq;clear hq;by_cases j:q=l+1
     ·have ac:((q:Int) !=(l:Int)+1)=false:=(by rw[tY];omega);have F:=hm l k aa d (by rw[<-H.o];exact j);obtain⟨fn,tmps,M,ad,hy,S⟩:=hY _ (codeOf (L:=L) (bR L (l+1) (jK L l) k).next k F d) wr t c;unfold am2 codeOf at hy;dsimp only at hy;have K:lW L (l+1) (jK L l) (k+1)=lW L (l+1) (jK L l) k++[((bR L (l+1) (jK L l) k).next,k)]:=by
       rw[lW,<-H.o,aA j]
      have A:(bR L (l+1) (jK L l) (k+1)).next=(bR L (l+1) (jK L l) k).next+1:=by
       rw[bR,<-H.o,aA j]
      have G:=hide (show(pre++[codeOf (L:=L) (bR L (l+1) (jK L l) k).next k F d]).map mH.pair=lU L l++lW L (l+1) (jK L l) (k+1) by
       rw[sS,b,K,dB];rfl)
      obtain⟨p,f⟩:∃p,p=pre++[codeOf (L:=L) (bR L (l+1) (jK L l) k).next k F d]:=⟨_,rfl⟩
      rw[<-f]at S G;clear f;have N:=hide A;obtain⟨nx,B⟩:=aP ((bR L (l+1) (jK L l) k).next);rw[<-B]at F hy A|-
      have P:=hide B;have ae:nx<65536:=F;have HB:=hide r;have HR:=hide S;clear K A B F r t ab S c T b;gi_wp2;apply HR.o.mono;rintro e W3 (⟨rfl,I,Y⟩|⟨rfl,u⟩)
      ·have y:=hide I;clear I;gi_wp2;go_roundw;case rel=>exact⟨k+1,p,by omega,by go_num,by rw[N.o,<-P.o];go_num,G.o,y.o,HB.o.trans Y⟩
       case measure=>simp[intOf];omega
      ·have y:=hide u;clear u;gi_wp2;refine aY (mD rfl _ _ _) rfl ?_;exact⟨⟨_,rfl⟩, .inr ⟨_,bT,y.o⟩⟩
     ·have ac:((q:Int) !=(l:Int)+1)=true:=(by rw[jP];omega);gi_wp2;go_roundw;case rel=>exact⟨k+1,pre,by omega,by go_num,by rw[bR,<-H.o,aB j],by rw[lW,<-H.o,aB j,bG];exact b,t,r⟩
      case measure=>simp[intOf];omega
    ·have:k=L.length:=(by omega);subst this;gi_wp2;go_roundw;case rel=>exact⟨l+1,pre,by omega,by go_num,rfl,b,t,r⟩
     case measure=>simp[intOf];omega
  ·have:l=15:=(by omega);subst this;gi_wp2;go_end0;exact⟨⟨_,rfl⟩, .inl ⟨_,b,t⟩⟩
def Z6 (n:Nat)(hn:1<=n)(a g off cap:Nat)(L:aD)(b:∀i:Nat,L[i]?.getD 0<=15)(t:AX L)(k:L.length<=1000)(w:aH)(c:a<w.heap.size)(r:g<w.heap.size)(q:w.cell? (U a 0)=some (.slice (some (U g off)) L.length cap))(d:Ints w g off L):SeqStopsK Fence.wide n prog 178 #[E a] am2 (uO a g) (fun(ys:List (mH L))=>ys.map mH.pair=lU L 15) (fun _=>True) 15001 w:=fun l J f W e _ _ o j=>
 Ul n hn l a g off cap L b t k J f o W ((e.cell (p:=(U a 0)) c).trans q) ⟨fun i hi=>(e.cell (p:=⟨g,off+i,none⟩) r).trans (d.cell i hi),d.le,d.much⟩ j
def vO (xs:List (Nat×Nat)):Nat->Nat:=xs.foldl (fun M x c=>if c=x.2 then x.1 else M c) (fun _=>0)
def MK (xs:List (Nat×Nat))(x:Nat×Nat):vO (xs++[x])=fun c=>if c=x.2 then x.1 else vO xs c:=by simp[vO]
def am7 (L:aD)(l:Nat)(s:Nat):∀k,vO (lU L l++lW L (l+1) (jK L l) k) s=if s<k/\L[s]?.getD 0=l+1 then Go.dM.keyOf L s else vO (lU L l) s:=by
 intro k;induction k with
 |zero=>rw[lW,bG,aB (by omega)]
 |succ k ih=>
  rw[lW];by_cases b:L[k]?.getD 0=l+1
  ·rw[aA b,<-dB,MK];dsimp only;by_cases hs:s=k
   ·subst hs;rw[aA rfl,aA ⟨by omega,b⟩,qG];unfold Go.dM.keyOf jK;dsimp only;rw[b,kU,show l+1-1=l by omega]
   ·rw[aB hs,ih];by_cases a:s<k/\L[s]?.getD 0=l+1
    ·rw[aA a,aA ⟨by omega,a.2⟩]
    ·rw[aB a,aB (fun c=>a ⟨by omega,c.2⟩)]
  ·rw[aB b,bG,ih];by_cases a:s<k/\L[s]?.getD 0=l+1
   ·rw[aA a,aA ⟨by omega,a.2⟩]
   ·rw[aB a,aB (fun c=> ?_)];by_cases hs:s=k
    ·subst hs;exact b c.2
    ·exact a ⟨by omega,c.2⟩
def ah0 (L:aD)(s:Nat)(hs:s<L.length)(b:0<L[s]?.getD 0):∀l,L[s]?.getD 0<=l->vO (lU L l) s=Go.dM.keyOf L s:=by
 intro l;induction l with
 |zero=>intro h;omega
 |succ l ih=>
  intro h;rw[lU,am7];by_cases a:L[s]?.getD 0=l+1
  ·rw[aA ⟨hs,a⟩]
  ·rw[aB (fun y=>a y.2)];exact ih (by omega)
attribute [local go_sem] Oper.semAt_some
def jC (M:Nat->Nat)(n:Nat):Array aK:=((List.range n).map fun s=>(.int .u32 (M s:Nat):aK)).toArray
def tH (M:Nat->Nat)(n s:Nat)(h:s<n):(jC M n)[s]? =some (.int .u32 (M s:Nat)):=by simp[jC,h]
def BU (M:Nat->Nat)(n:Nat):(jC M n).size=n:=by simp[jC]
def WG (M:Nat->Nat)(n s v:Nat):(jC M n).setIfInBounds s (.int .u32 (v:Nat))=jC (fun c=>if c=s then v else M c) n:=by
 apply Array.ext_getElem?;intro i;rw[Array.getElem?_setIfInBounds];by_cases hi:i<n
 ·rw[tH _ _ _ hi,tH _ _ _ hi,BU];by_cases e:s=i
  ·subst e;simp[hi]
  ·simp[e,Ne.symm e]
 ·have a:(jC M n)[i]? =none:=by simp[jC];omega
  have b:(jC (fun c=>if c=s then v else M c) n)[i]? =none:=by simp[jC];omega
  rw[a,b,BU];split
  ·rw[aB (by omega)]
  ·rfl
def am9:(prog.info? 198).map (fun i=>(i.zero,i.size,i.bytes))=some (some (.int .u32 0),1,4):=by kernel_rfl
def Rk:prog.underlying 150=some (.slice 198):=by kernel_rfl
structure as0 (w:aH)(R:Nat)(L:aD)(pre:List (mH L))(W:aH):Prop where
 blk:W.heap[R]? =some (.cells (jC (vO (pre.map mH.pair)) L.length) 198 (0,0))
 var:W.cell? ⟨R+1,0,none⟩=some (.slice (some (U R 0)) L.length L.length)
 below:Below w.heap.size w W
 big:R+3<=W.heap.size
set_option maxRecDepth 100000 in
def FE (g off cap:Nat)(L:aD)(w:aH)(h:Ints w g off L)(ad:g<w.heap.size)(hm:AX L)(ac:0<L.length):Calls prog 131 #[.slice (some (U g off)) L.length cap] w fun e w'=>∃gb,e= .returned (.slice (some (U gb 0)) L.length L.length)/\w.heap.size<=gb/\w'.heap[gb]? =some (.cells (jC (vO (lU L 15)) L.length) 198 (0,0))/\O w w':=by
 refine(uV (n:=3)).1 ?_;have z:=h.much;obtain⟨i0,hi,Q,T,ah⟩:=eD am9;obtain⟨n,hn⟩:=aP L.length;obtain⟨d,f⟩:∃d:Array aK,d=jC (vO []) n:=⟨_,rfl⟩
 have ae:∀w:aH,(Instr.makeSlice 150 (V (n:Int)) (V (n:Int))).run prog w= .ok (.slice (some (U w.heap.size 0)) n n) (w.alloc (.cells d 198)):=by
  intro w;have h:=run_make (P:=prog) w 150 198 i0 (.int .u32 0) Rk hi Q .i64 .i64 n n (by omega) (Int.le_refl _) (by rw[ah];omega) (by omega);have e:madeCells (Value.int .u32 0).cells ((n:Int).toNat*i0.size)=d:=by
   rw[f,T];apply Array.ext';rw[show((n:Int).toNat*1)=n by omega];refine(OQ _ _).trans ?_;unfold jC vO;simp[List.map_const']
  rw[e]at h;exact h
 refine callsIn_of_wp_marks func131 rfl bT ?_ rfl;simp only[ntmps131,xD,iN,pE,Nat.reduceAdd,Nat.reduceSub,BS,CV,AR,CU,iO,jZ];rw[<-hn]at z ac|-
 have u:=hide hn;clear hn;gi_wp2_with (refine⟨bT,?_⟩;gi_at_call 157;apply(Dj _ _ bT rfl _ _ _ _).mono;rintro e w' ⟨rfl,rfl⟩);obtain⟨R,C⟩:=aP w.heap.size;rw[<-C];obtain⟨w1,a⟩:=aP (((w.alloc (.cells d 198)).alloc (.cells #[.slice (some (U R 0)) n n] 150)).alloc (.cells #[.slice (some (U g off)) n cap] 57));rw[<-f,<-a];have T:w1.heap.size=R+1+1+1:=by rw[a,C];simp
 have I:Below w.heap.size w w1:=by rw[a];exact((((qK _ w).alloc (aS _) _).alloc (by simp) _).alloc (by simp;omega) _)
 have M:w1.cell? ⟨R+1+1,0,none⟩=some (.slice (some (U g off)) L.length cap):=by
  have v:=aR ((w.alloc (.cells d 198)).alloc (.cells #[.slice (some (U R 0)) n n] 150)) (.cells #[.slice (some (U g off)) n cap] 57);rw[<-a,show((w.alloc (.cells d 198)).alloc (.cells #[.slice (some (U R 0)) n n] 150)).heap.size=R+1+1 by rw[C];simp]at v;rw[<-u.o];exact jO v
 have t:w1.cell? ⟨R+1,0,none⟩=some (.slice (some (U R 0)) n n):=by
  have v:=aR (w.alloc (.cells d 198)) (.cells #[.slice (some (U R 0)) n n] 150);rw[show(w.alloc (.cells d 198)).heap.size=R+1 by rw[C];simp]at v;rw[a];exact jO ((dG _ _ _ (by simp;omega)).trans v)
 have J:w1.heap[R]? =some (.cells d 198 (0,0)):=by
  rw[a,C];exact(dG _ _ _ (by simp;omega)).trans ((dG _ _ _ (by simp)).trans (aR _ _))
 have D:as0 w R L [] w1:=⟨by rw[J,f,u.o];rfl,by rw[t,u.o],I,by omega⟩
 have N:Ints w1 g off L:=⟨fun i hi=>(I.cell (p:=⟨g,off+i,none⟩) ad).trans (h.cell i hi),h.le,h.much⟩
 have ab:=h.le;have j:=h.much;have H:w.heap.size<=R:=by omega
 have ai:R<=w.heap.size:=by omega
 have aa:=hide D;have Z:=hide N;clear a C t J f ae h D N hi Q
 refine wpIn_rangeFunc_ownG (F:=Fence.wide) rfl (by omega) (gf:=178) (lb:=#[.pointer (some ⟨R+1+1,0,none⟩)]) rfl bT (enters_of func178 (by kernel_rfl) rfl)
  (Z6 _ (by omega) (R+1+1) g off cap L ab hm j w1 (by omega) (by omega) M Z.o) uO.trans ?hKb (qK _ _) (fun _=>rfl)
  (as0 w R L) (fun _ _ _=>False) ?hI (fun _ _ _ _ _ hs _ _=>hs) aa.o
  (fun x=>{ tmps:=#[.slice (some (U g off)) n cap,undef, .slice none 0 0, .pointer (some ⟨R+1,0,none⟩), .int .u32 (x.key:Nat),V x.sym, .slice (some (U g off)) n cap,V (n:Nat), .slice (some (U R 0)) n n, .slice (some (U g off)) n cap, .func (.func 178) #[] #[.pointer (some ⟨R+1+1,0,none⟩)], .int .u32 (x.key:Nat),V x.sym,undef,undef,undef,undef,undef],defers:=[] }) ?assign ?body ?done ?stop
 case hKb=>
  intro W l o o' hl _ _ _;exact⟨World.putObj_heap_other (by omega),World.putObj_heap_other (by omega)⟩
 case hI=>
  intro s A B row hs X hr;have af:=fun r e=>(hr r e).2;have q:=hs.big;exact⟨(X.block R (by omega) (fun e=>by have:=(hr _ e.symm).1;omega)).trans hs.blk,cell_kept hs.var X af,hs.below.grown X hs.below.size (fun k e=>by have:=(hr k e).1;omega),bB hs.big X.size⟩
 case assign=>
  intro l x W K G;dsimp only[am2];gi_wp2;exact G
 case body=>
  rintro l pre x W hs al;obtain⟨K,S,G,hS⟩:=x;dsimp only at G hS|-
  have hv:=hs.var;rw[<-u.o]at hv hS;have hb:=hs.blk;have hc:=aC hb S _ (tH _ _ S (by rw[<-u.o];exact hS));have hf:=aJ hb S;have ak:(S:Int)<(n:Int):=by omega
  have HS:=hide hs;clear hs hb;gi_wp2;have hs:=HS.o;have q:=hs.big;refine⟨(KeepsOthers.setCell _ _ _).from _,⟨?_,?_⟩,?_⟩
  ·exact cZ _ _ _ _ (by simp;omega)
  ·exact cZ _ _ _ _ (by simp;omega)
  ·refine⟨?_,?_,?_,by simp[World.setCell];omega⟩
   ·have v:=aV hs.blk S (.int .u32 (K:Nat));rw[show∀y:mH L,y.pair=(K,S)->(pre++[y]).map mH.pair=pre.map mH.pair++[(K,S)] from fun y hy=>by rw[sS,<-hy];rfl,MK,<-WG]
    ·exact v
    ·rfl
   ·exact(KV _ _ _ _ (by simp)).trans hs.var
   ·exact hs.below.setCell (p:=(U R S)) H _
 case done=>
  rintro Y ys W aj ag hs G;have hv:=hs.var;rw[<-u.o]at hv;have HS:=hide hs;clear hs;gi_wp2;have hs:=HS.o;have q:=hs.big;have b:Below w.heap.size w (W.putObj Y (.deferred none)):=hs.below.grown (grownBy_putObj' W Y (.deferred none)) hs.below.size (fun k e=>by cases e;omega);refine⟨by simp, .inl ⟨_,_,rfl,run_takeDeferred G,?_⟩⟩;refine⟨.slice (some (U R 0)) n n,by simp[results,results131,go_sem],R,rfl,H,?_,?_⟩
  ·rw[World.putObj_heap_other (by omega),hs.blk,ag,u.o]
  ·exact⟨b.os,b.tape,b.output,b.size,fun k hk _=>b.block k hk⟩
 case stop=>
  rintro Y c pre W _ _ hx _;exact hx.elim
end Go.Proofs.YtbpahojchgpdnaaGreatDoor
namespace Go.Proofs.YtbpahojchgpdnaaGreatDoor
open Go.RowKit Go.dM Go.Proofs.Tryz
variable {L:aD} {w:aH} {m s x:Nat}
def Ai (a:Nat)(b:a<65536):bits .and .u32 (a:Int) 1=((a%2:Nat):Int):=by have c:a&&&1<2^1:=IZ _ (by omega);show IntKind.u32.wrap ((BitVec.ofInt 32 (a:Int)&&&BitVec.ofInt 32 ((1:Nat):Int)).toNat:Int)=_;rw[GI,j5 32 a (by omega),j5 32 1 (by omega),IntKind.wrap_u32,OZ];omega
def al4 (K n j:Nat)(a:2^n<=K)(b:j<n):(K-2^n)/2^j%2=K/2^j%2:=by
 obtain⟨y,rfl⟩:∃y,K=2^n+y:=⟨K-2^n,by omega⟩
 rw[CB];have e:2^n=2^j*(2*2^(n-j-1)):=by rw[<-Nat.pow_succ',<-oZ];congr 1;omega
 rw[e,Nat.mul_add_div (nC (by omega))];omega
def uU (k base g off cap N s K n:Nat)(v:aK)(f:List Bool)(w:aH)(h:Sk w k base v f)(hc:w.cell? ⟨g,off+s,none⟩=some (.int .u32 (K:Nat)))(hs:s<N)(B:2^n<=K)(C:K<2^(n+1))(hn:n<=15)(hl:f.length<70368744170000)(F:base<=w.heap.size):Calls prog 127 #[.slice (some (U g off)) N cap,E k,V s] w fun e w'=>e= .returned (.tuple #[])/\∃S,Sk w' k base S (f++nT (K-2^n) n)/\dH k w v w' S:=by
 have D:K<65536:=nM C (by have:=gL (show 0<2 by omega) (show n+1<=16 by omega);omega);have W:=hide h;have aa:(0:Int)<=(s:Int):=by omega
 have ab:(s:Int)<(N:Int):=by omega
 have b:=hide (U5 K w D);have p:=DV n K B C D;have l:=hide p;have T:=hide B;clear h p C B;go_enter func127,ntmps127;go_wp2_with fail;apply b.o.mono;rintro r w1 ⟨rfl,rfl⟩;rw[l.o,show(((n+1:Nat):Int)-1)=(n:Int) by omega];clear b l;go_wp2_with fail;go_loopg [7] n (fun g u7 wr=>∃(j:Nat) (v1:aK),u7=V ((n:Int)-1-(j:Nat))/\g+j=n/\Sk wr k base v1 (f++rH (K-2^n) n j)/\dH k w1 v wr v1);case atStart=>exact⟨0,v,by simp,by omega,by rw[show rH (K-2^n) n 0=[] from rfl,bG];exact W.o,dH.refl _ _ _⟩
 case round=>
  obtain⟨j,v1,rfl,hg,a,t⟩:=hrel;by_cases hj:j<n
  ·obtain⟨i,hi⟩:=aP (n-1-j);have H:(n:Int)-1-(j:Int)=(i:Int):=(by omega);have G:(i:Int)>=0:=(by omega);have R:i<64:=(by omega);have Q:K/2^i<65536:=JC (DU _ _) D;have c:=Ai (K/2^i) Q;have d:bits .and .u32 ((K:Int)/2^i) 1=((K/2^i%2:Nat):Int):=(by rw[<-c];simp);have ac:=t.step.size;have P:=Nh k base (K/2^i%2) v1 (f++rH (K-2^n) n j) wr a (by omega) (by rw[aN,xE];omega) (by omega);have z:=hide P;have M:=hide t;have Y:=hide (al4 K n i T.o (by omega));obtain⟨y,I⟩:=aP (K/2^i%2);rw[<-I]at d z;have Z:=hide I;have X:=hide hi;have ad:y<2:=(by omega);rw[H];clear P t a c Q I hi;go_wp2_with fail;apply z.o.mono;rintro r w2 ⟨rfl,J,q,u⟩;have A:=hide (show Sk w2 k base J (f++rH (K-2^n) n (j+1))/\dH k w1 v w2 J from⟨by
    rw[MB,<-dB,<-X.o,Y.o,<-Z.o];exact q,M.o.trans u⟩)
   clear q u z M;go_wp2_with fail;go_roundg (gk-1);case measure=>omega
   case rel=>exact⟨j+1,J,by simp;omega,by omega,A.o⟩
  ·obtain rfl:j=n:=by omega
   have G:¬((j:Int)-1-(j:Int)>=0):=(by omega);have A:=hide (aQ a t);clear a t;go_wp2_with fail;go_end0;exact⟨rfl,v1,A.o⟩
def Sk.off {k base:Nat}{v:aK}{a:List Bool}(h:Sk w k base v a){j:Nat}(c:w.heap.size<=j):Off k v j:=by have hk:=h.lt;obtain⟨B,b⟩:=h;exact⟨by omega,fun x=>by have:=(b.own.lt j x).2;omega⟩
def yY (k base g off cap N s K n x m:Nat)(v:aK)(d:List Bool)(w:aH)(h:Sk w k base v d)(u:w.cell? ⟨g,off+s,none⟩=some (.int .u32 (K:Nat)))(hs:s<N)(F:2^n<=K)(G:K<2^(n+1))(hn:n<=15)(W:x<1000000)(T:m<=20)(S:d.length<70368744000000)(l:base<=w.heap.size):Calls prog 129 #[.agg #[V s,V (x:Nat),V m],E k, .slice (some (U g off)) N cap] w fun e w'=>e= .returned (.tuple #[])/\∃B,Sk w' k base B (d++nT (K-2^n) n++numBits x m)/\dH k w v w' B:=by
 have I:=h.lt;have H:=kF w _ u;go_enter func129,ntmps129;go_wp2_with fail;obtain⟨w0,b⟩:=aP (w.alloc (.cells #[V s,V (x:Nat),V m] 175));have i:w0.heap[w.heap.size]? =some (.cells #[V s,V (x:Nat),V m] 175 (0,0)):=by rw[b];exact aR _ _
 have a:O w w0:=by rw[b];exact(aU _ _).alloc _
 rw[<-b];have z:=h.off (aS _);have A:=a.size;apply(uU k base g off cap N s K n v d w0 (h.step0 a) (a.cell u (fun y=>y)) hs F G hn (by omega) (by omega)).mono;rintro r w1 ⟨rfl,v1,p,c⟩;have j:=c.step.at_ i (fun x=>x.elim z.1 z.2);obtain⟨m0,m1,M,P,m2,Q⟩:=fV j;have J:=c.step.size;have f:=hide ((⟨a.mono (fun _ y=>y.elim),fun _ y=> .inl y⟩:dH k w v w0 v).trans c);have D:=hide (IG k base x m v1 (d++nT (K-2^n) n) w1 p (by omega) (by omega) (by rw[aN,uH];omega) (by omega));go_wp2_with fail;apply D.o.mono;rintro r w2 ⟨rfl,R,q,t⟩;have C:=hide (aQ q (f.o.trans t));go_wp2_with fail;go_end0;exact⟨rfl,R,C.o⟩
def dN (L:aD)(s:Nat):List Bool:=nT (Go.dM.keyOf L s-2^(L[s]?.getD 0)) (L[s]?.getD 0)
structure iB (L:aD)(s:Nat):Prop where
 lt:s<L.length
 pos:1<=L[s]?.getD 0
 le:L[s]?.getD 0<=15
 lo:2^(L[s]?.getD 0)<=Go.dM.keyOf L s
 hi:Go.dM.keyOf L s<2^(L[s]?.getD 0+1)
def qD (a:∀i:Nat,L[i]?.getD 0<=15)(g:fF L=true)(hs:s<L.length)(d:1<=L[s]?.getD 0):iB L s:=by
 obtain⟨l,c⟩:∃l,L[s]?.getD 0=l+1:=⟨L[s]?.getD 0-1,by omega⟩
 have f:=a s;have b:=P8 L a g l s (by omega) hs c;have e:(bR L (l+1) (jK L l) s).next=Go.dM.keyOf L s:=by
  rw[qG];unfold Go.dM.keyOf jK;dsimp only;rw[c,kU,show l+1-1=l by omega]
 rw[e]at b;refine⟨hs,d,f,?_,?_⟩<;>rw[c]
 ·exact b.1
 ·exact b.2.1
def fP (L:aD)(s:Nat):(dN L s).length=L[s]?.getD 0:=uH _ _
def BK (L1 L2:aD)(p:Pc)(b:List Bool):Prop:=
 (p.l=0/\b=dN L1 p.b)\/(p.l≠0/\∃s x m s2 x2 m2,LenM p.l s x m/\tL p.d s2 x2 m2/\b=dN L1 s++numBits x m++dN L2 s2++numBits x2 m2)
def iX (L1 L2:aD):List Pc->List Bool->Prop
 |[],b=>b=[]
 |p::ps,b=>∃b1 b2,b=b1++b2/\BK L1 L2 p b1/\iX L1 L2 ps b2
def iX.snoc {c d:aD}{p:Pc}{a:List Bool}:∀{e:List Pc} {b:List Bool},iX c d e b->BK c d p a->iX c d (e++[p]) (b++a)
 |[],b,h,hp=>by
  have:b=[]:=h
  subst this
  exact⟨a,[],by simp,hp,rfl⟩
 |_::_,_,⟨b1,b2,hb,h1,h2⟩,hp=>⟨b1,b2++a,by rw[hb,dB],h1,iX.snoc h2 hp⟩
def Needs (L1 L2:aD)(p:Pc):Prop:=
 (p.l=0/\p.b<256/\iB L1 p.b)\/(3<=p.l/\p.l<=258/\1<=p.d/\p.d<=32768/\(∀s x m,LenM p.l s x m->iB L1 s)/\∀s x m,tL p.d s x m->iB L2 s)
def LenM.bd {n:Nat}(h:LenM n s x m):x<2^m/\m<=5/\257<=s/\s<=285:=by
 rcases h with⟨_,_,b,a⟩|⟨_,_,_,b,a⟩|⟨_,_,b,_,a,c⟩
 ·subst b a;exact⟨by decide,by omega,by omega,by omega⟩
 ·subst b a;exact⟨by decide,by omega,by omega,by omega⟩
 ·exact⟨a,c.1,by omega,by omega⟩
def tL.bd {n:Nat}(h:tL n s x m):x<2^m/\m<=13/\s<30:=by
 rcases h with⟨_,_,b,a⟩|⟨_,_,b,_,a,c⟩
 ·subst b a;exact⟨by decide,by omega,by omega⟩
 ·exact⟨a,c,by omega⟩
def UG (h:x<2^m)(a:m<=13):x<1000000:=by have:=gL (show 0<2 by omega) a;have e:(2:Nat)^13=8192:=rfl;omega
def lS (w:aH)(g:Nat)(L:aD):Prop:=w.heap[g]? =some (.cells (jC (vO (lU L 15)) L.length) 198 (0,0))
def lS.cell {g:Nat}(h:lS w g L)(a:iB L s):w.cell? ⟨g,0+s,none⟩=some (.int .u32 (Go.dM.keyOf L s:Nat)):=by rw[dS,<-ah0 L s a.lt (by have:=a.pos;omega) 15 a.le];exact aC h s _ (tH _ _ _ a.lt)
def M6 (k o1 c1 l o2 c2:Nat)(a b:aD)(w:aH)(B:Ints w k o1 a)(C:Ints w l o2 b)(G:k<w.heap.size)(H:l<w.heap.size)(k1:AX a)(k2:AX b)(M:0<a.length)(p2:0<b.length):Calls prog 101 #[.slice (some (U k o1)) a.length c1, .slice (some (U l o2)) b.length c2] w fun e w'=>∃b1 b2:Nat,e= .returned (.agg #[.slice (some (U b1 0)) a.length a.length, .slice (some (U b2 0)) b.length b.length])/\w.heap.size<=b1/\w.heap.size<=b2/\lS w' b1 a/\lS w' b2 b/\O w w':=by
 go_enter func101,ntmps101;go_wp2_with fail;obtain⟨w1,f⟩:=aP (w.alloc (.cells #[.slice none 0 0, .slice none 0 0] 152));have g:O w w1:=by rw[f];exact(aU _ _).alloc _
 have u:w1.heap[w.heap.size]? =some (.cells #[.slice none 0 0, .slice none 0 0] 152 (0,0)):=by rw[f];exact aR _ _
 have I:w1.heap.size=w.heap.size+1:=by rw[f];simp
 rw[<-f];apply(FE k o1 c1 a w1 (B.step g (fun x=>x)) (by omega) k1 M).mono;rintro e w2 ⟨b1,rfl,D,r,c⟩;have J:=c.size;have A:=hide (FE l o2 c2 b w2 ((C.step g (fun x=>x)).step c (fun x=>x)) (by omega) k2 p2);have n:=hide (show lS w2 b1 a from r);have y:=c.at_ u (fun x=>x);have i:=g.trans c;go_wp2_with fail;apply A.o.mono;rintro e w3 ⟨b2,rfl,F,t,d⟩;have p:=hide (show lS w3 b2 b from t);have z:=d.at_ y (fun x=>x);obtain⟨r0,r1,N,f1⟩:=gB z;have q:=hide (show lS w3 b1 a from d.at_ n.o (fun x=>x));have j:=i.trans d;have K:=d.size;go_wp2_with fail;refine aY (v:= .agg #[.slice (some (U b1 0)) a.length a.length, .slice (some (U b2 0)) b.length b.length]) (by simp[results,results101,go_sem,r0,r1]) rfl ⟨b1,b2,rfl,by omega,by omega,?_,?_,?_⟩
 ·exact(((cZ _ _ _ _ (by simp;omega)).trans (cZ _ _ _ _ (by simp;omega)))).trans q.o
 ·exact(((cZ _ _ _ _ (by simp;omega)).trans (cZ _ _ _ _ (by simp;omega)))).trans p.o
 ·exact(j.aZ (by simp) _).aZ (by simp) _
def vJ (w:aH)(j off:Nat)(ps:List Pc):Prop:=∀i p,ps[i]? =some p->w.cell? ⟨j,off+i*3,none⟩=some (.int .u8 (p.b:Nat))/\w.cell? ⟨j,off+i*3+1,none⟩=some (V (p.l:Nat))/\w.cell? ⟨j,off+i*3+2,none⟩=some (V (p.d:Nat))
structure Wrs (w:aH)(k:Nat)(v:aK)(j off X b1 b2:Nat)(L1 L2:aD)(ps:List Pc):Prop where
 lie:vJ w j off ps
 box:w.heap[X]? =some (.cells #[.slice (some (U b1 0)) L1.length L1.length, .slice (some (U b2 0)) L2.length L2.length] 152 (0,0))
 bk1:lS w b1 L1
 bk2:lS w b2 L2
 oj:Off k v j
 oX:Off k v X
 o1:Off k v b1
 o2:Off k v b2
 jl:j<w.heap.size
def Wrs.wrt {w':aH}{k:Nat}{v e:aK}{j off X b1 b2:Nat}{b c:aD}{d:List Pc}(h:Wrs w k v j off X b1 b2 b c d)(a:dH k w v w' e):Wrs w' k e j off X b1 b2 b c d:=by have r:=a.step.size;have q:=h.jl;have n:∀{x},Off k v x->¬(x=k\/v.ownBlock=some x):=fun o y=>y.elim o.1 o.2;refine⟨fun i p hp=> ?_,a.step.at_ h.box (n h.oX),a.step.at_ h.bk1 (n h.o1),a.step.at_ h.bk2 (n h.o2),h.oj.wrt h.jl a,h.oX.wrt (aO h.box) a,h.o1.wrt (aO h.bk1) a,h.o2.wrt (aO h.bk2) a,by omega⟩;obtain⟨f,g,l⟩:=h.lie i p hp;exact⟨a.step.cell (p:=(U j _)) f (n h.oj),a.step.cell (p:=(U j _)) g (n h.oj),a.step.cell (p:=(U j _)) l (n h.oj)⟩
def LV (k base j off cap b1 b2:Nat)(v:aK)(J:List Bool)(G:List Pc)(c n:aD)(w:aH)(h:Sk w k base v J)(hW:vJ w j off G)(aq:lS w b1 c)(ar:lS w b2 n)(oj:Off k v j)(o1:Off k v b1)(o2:Off k v b2)(jl:j<w.heap.size)(hn:∀p∈G,Needs c n p)(F:iB c 256)(br:G.length<=1048576)(hl:J.length<60000000000000)(ba:base<=w.heap.size):Calls prog 100 #[E k, .slice (some (U j off)) G.length cap, .agg #[.slice (some (U b1 0)) c.length c.length, .slice (some (U b2 0)) n.length n.length]] w fun e w'=>e= .returned (.tuple #[])/\∃v' bits,Sk w' k base v' (J++bits++dN c 256)/\iX c n G bits/\bits.length<=48*G.length/\dH k w v w' v':=by
 have hk:=h.lt;go_enter func100,ntmps100;go_wp2_with fail;obtain⟨X,hX⟩:=aP w.heap.size;obtain⟨w0,ab⟩:=aP (w.alloc (.cells #[.slice (some (U b1 0)) c.length c.length, .slice (some (U b2 0)) n.length n.length] 152));have B:O w w0:=by rw[ab];exact(aU _ _).alloc _
 have f:w0.heap[X]? =some (.cells #[.slice (some (U b1 0)) c.length c.length, .slice (some (U b2 0)) n.length n.length] 152 (0,0)):=by rw[ab,hX];exact aR _ _
 have ap:Wrs w0 k v j off X b1 b2 c n G:=by
  refine⟨fun i p hp=> ?_,f,B.at_ aq (fun x=>x),B.at_ ar (fun x=>x),oj,by rw[hX];exact h.off (aS _),o1,o2,by have:=B.size;omega⟩;obtain⟨c1,c2,c3⟩:=hW i p hp;exact⟨B.cell (p:=(U j _)) c1 (fun x=>x),B.cell (p:=(U j _)) c2 (fun x=>x),B.cell (p:=(U j _)) c3 (fun x=>x)⟩
 have am:=hide ap;have ak:=hide (h.step0 B);have ax:=hide (⟨B.mono (fun _ y=>y.elim),fun _ y=> .inl y⟩:dH k w v w0 v);have bt:=B.size;rw[<-hX,<-ab];have bp:X<w0.heap.size:=aO f;clear hX hW aq ar oj o1 o2 ap f B ab h;go_loopg [10] G.length (fun g u10 wr=>∃(i:Nat) (v1:aK) (bits:List Bool),u10=V (i:Nat)/\g+i=G.length/\Sk wr k base v1 (J++bits)/\iX c n (G.take i) bits/\bits.length<=48*i/\dH k w0 v wr v1);case atStart=>exact⟨0,v,[],rfl,by omega,by rw[bG];exact ak.o,rfl,by simp,dH.refl _ _ _⟩
 case round=>
  clear ak;obtain⟨i,v1,bits,rfl,hg,aa,z,bq,H⟩:=hrel;have A:=am.o.wrt H;have bv:=H.step.size;by_cases hi:i<G.length
  ·have bf:(i:Int)<(G.length:Int):=(by omega);obtain⟨p,hp⟩:∃p,G[i]? =some p:=⟨_,bV hi⟩
   obtain⟨c1,c2,c3⟩:=A.lie i p hp;have aj:=hn p (nZ hp);have HP:=hide hp;have W:=hide aa;have HB:=hide z;have Y:=hide H;have M:=hide A;clear hp aa z H A;rcases aj with⟨au,az,a⟩|⟨bj,ai,bc,be,ah,bb⟩
   ·have av:((p.l:Int)==0)=true:=dI.2 (by omega);have f:=M.o.box;obtain⟨x0,x1,-,-⟩:=gB f;clear f;have ay:X<wr.heap.size:=(by omega);have an:=aR wr (.cells #[.int .u8 (p.b:Nat),V p.l,V p.d] 159);have q:dH k wr v1 (wr.alloc (.cells #[.int .u8 (p.b:Nat),V p.l,V p.d] 159)) v1:=(dH.refl _ _ _).alloc _;rw[au]at an q;have ac:Sk (wr.alloc (.cells #[.int .u8 (p.b:Nat),V ((0:Nat):Int),V p.d] 159)) k base v1 (J++bits):=W.o.step0 ((aU _ _).alloc _);have T:=hide (uU k base b1 0 c.length c.length p.b (Go.dM.keyOf c p.b) (c[p.b]?.getD 0) v1 (J++bits) _ ac ((M.o.wrt q).bk1.cell a) a.lt a.lo a.hi a.le (by rw[aN];omega) (by rw[oJ];omega));have al:=hide q;have ah:=a.le;clear an ac q a;go_wp2_with fail;apply T.o.mono;rintro e w2 ⟨rfl,D,C,t⟩;have K:=hide (show Sk w2 k base D (J++(bits++dN c p.b))/\iX c n (G.take (i+1)) (bits++dN c p.b)/\dH k w0 v w2 D from⟨by rw[<-dB];exact C,by
     rw[jE,HP.o];exact HB.o.snoc (.inl ⟨au,rfl⟩),(Y.o.trans al.o).trans t⟩)
    clear C t T al;go_wp2_with fail;go_roundg (gk-1);case measure=>omega
    case rel=>exact⟨i+1,D,bits++dN c p.b,by go_num,by omega,K.o.1,K.o.2.1,by rw[aN,fP];omega,K.o.2.2⟩
   ·have av:((p.l:Int)==0)=false:=aX.2 (by omega);have f:=M.o.box;obtain⟨x0,x1,-,-⟩:=gB f;clear f;have ay:X<wr.heap.size:=by omega
    have P:∀(w2:aH) (s x m:Nat),O (wr.alloc (.cells #[.int .u8 (p.b:Nat),V p.l,V p.d] 159)) w2->LenM p.l s x m->
      w2.cell? (U X 0)=some (.slice (some (U b1 0)) c.length c.length)/\Calls prog 129 #[.agg #[V s,V (x:Nat),V m],E k, .slice (some (U b1 0)) c.length c.length] w2
      fun e wc=>e= .returned (.tuple #[])/\∃D:aK,Sk wc k base D (J++bits++dN c s++numBits x m)/\dH k wr v1 wc D/\wc.heap[wr.heap.size]? =some (.cells #[.int .u8 (p.b:Nat),V p.l,V p.d] 159 (0,0)):=by
     intro w2 s x m r Z;have q:dH k wr v1 w2 v1:=((dH.refl _ _ _).alloc _).step0 r;have Q:=M.o.wrt q;have a:=ah s x m Z;have ag:=Z.bd;have hP:=r.at_ (aR wr (.cells #[.int .u8 (p.b:Nat),V p.l,V p.d] 159)) (fun x=>x);have bk:=q.step.size;have aw:O wr w2:=((aU _ _).alloc _).trans r;refine⟨(gB Q.box).1,(yY k base b1 0 c.length c.length s (Go.dM.keyOf c s) (c[s]?.getD 0) x m v1 (J++bits) w2 (W.o.step0 aw) (Q.bk1.cell a) a.lt a.lo a.hi a.le (UG ag.1 (by omega)) (by omega) (by rw[aN];omega) (by omega)).mono ?_⟩;rintro e wc ⟨rfl,D,C,t⟩;exact⟨rfl,D,C,q.trans t,t.step.at_ hP (fun y=>y.elim (W.o.off (aS _)).1 (W.o.off (aS _)).2)⟩
    have af:=hide P;clear P;go_wp2_with fail;go_cut [7,10] (fun p7 i10 wc=>p7=(E wr.heap.size)/\i10=V (i:Nat)/\∃(D:aK) (s x m:Nat),LenM p.l s x m/\Sk wc k base D (J++bits++dN c s++numBits x m)/\dH k wr v1 wc D/\wc.heap[wr.heap.size]? =some (.cells #[.int .u8 (p.b:Nat),V p.l,V p.d] 159 (0,0)));case first=>
     go_region_with (first
      |(go_at_call 128;apply(F4 p.l _ bj ai).mono;rintro e w2 ⟨s,x,m,rfl,Z,r⟩;obtain⟨y0,T⟩:=af.o w2 s x m (((aU _ _).drew).trans r) Z;have ad:=hide T;clear T r)
      |(go_at_call 129;apply ad.o.mono;rintro e w3 ⟨rfl,K⟩;have ae:=hide K;clear K))
     all_goals go_wp2_with fail
     all_goals go_meet
     all_goals (obtain⟨D,hF⟩:=ae.o;exact⟨rfl,rfl,D,s,x,m,Z,hF⟩)
    case rest=>
     obtain⟨rfl,rfl,D,s,x,m,Z,C,t,ao⟩:=hcut;have R:=M.o.wrt t;obtain⟨z0,z1,-,-⟩:=gB R.box;obtain⟨q0,q1,-,-,q2,-⟩:=fV ao;have bm:=Z.bd;have bu:=t.step.size;have bn:=(ah s x m Z).le
     have P:∀(w2:aH) (I S m2:Nat),O wc w2->tL p.d I S m2->
       w2.cell? (U X 1)=some (.slice (some (U b2 0)) n.length n.length)/\Calls prog 129 #[.agg #[V I,V S,V m2],E k, .slice (some (U b2 0)) n.length n.length] w2
       fun e w4=>e= .returned (.tuple #[])/\∃(v3:aK) (u:List Bool),Sk w4 k base v3 (J++u)/\iX c n (G.take (i+1)) u/\u.length<=48*(i+1)/\dH k w0 v w4 v3:=by
      intro w2 I S m2 r N;have q:dH k wc D w2 D:=(dH.refl _ _ _).step0 r;have Q:=R.wrt q;have a:=bb I S m2 N;have ag:=N.bd;have bo:=a.le;have bk:=q.step.size;refine⟨(gB Q.box).2.1,(yY k base b2 0 n.length n.length I (Go.dM.keyOf n I) (n[I]?.getD 0) S m2 D _ w2 (C.step0 r) (Q.bk2.cell a) a.lt a.lo a.hi a.le (UG ag.1 (by omega)) (by omega) (by simp only[aN,fP,aM];omega) (by omega)).mono ?_⟩;rintro e w4 ⟨rfl,v3,bh,bl⟩;refine⟨rfl,v3,bits++(dN c s++numBits x m++dN n I++numBits S m2),?_,?_,?_,((Y.o.trans t).trans q).trans bl⟩
      ·have e:J++(bits++(dN c s++numBits x m++dN n I++numBits S m2))=J++bits++dN c s++numBits x m++nT (Go.dM.keyOf n I-2^(n[I]?.getD 0)) (n[I]?.getD 0)++numBits S m2:=by
        simp only[dB];rfl
       rw[e];exact bh
      ·rw[jE,HP.o];exact HB.o.snoc (.inr ⟨by omega,s,x,m,I,S,m2,Z,N,rfl⟩)
      ·simp only[aN,fP,aM];omega
     have af:=hide P;clear P R C t ao;go_wp2_with fail;go_region_with (first
      |(go_at_call 130;apply(A8 p.d _ bc be).mono;rintro e w2 ⟨I,S,m2,rfl,N,r⟩;obtain⟨y0,T⟩:=af.o w2 I S m2 (((aU _ _).drew).trans r) N;have ad:=hide T;clear T r)
      |(go_at_call 129;apply ad.o.mono;rintro e w3 ⟨rfl,K⟩;have ae:=hide K;clear K))
     all_goals go_wp2_with fail
     all_goals (go_roundg (gk-1))
     all_goals first
      |omega
      |(obtain⟨v3,u,h1,h2,h3,h4⟩:=ae.o;exact⟨i+1,v3,u,by go_num,by omega,h1,h2,h3,h4⟩)
  ·have bf:¬(i:Int)<(G.length:Int):=(by omega);have A:=am.o.wrt H;obtain⟨x0,x1,-,-⟩:=gB A.box;have T:=hide (uU k base b1 0 c.length c.length 256 (Go.dM.keyOf c 256) (c[256]?.getD 0) v1 (J++bits) wr aa (A.bk1.cell F) F.lt F.lo F.hi F.le (by rw[aN];omega) (by omega));have bg:i=G.length:=(by omega);rw[kW (by omega)]at z;have HB:=hide z;have Y:=hide H;clear aa z H A bg;go_wp2_with fail;apply T.o.mono;rintro e w2 ⟨rfl,D,C,t⟩;have K:=hide (aQ C t);go_wp2_with fail;go_end0;exact⟨rfl,D,bits,K.o.1,HB.o,by omega,ax.o.trans (Y.o.trans K.o.2)⟩
def NI (k base b1 b2 cap:Nat)(a:Option Addr)(v:aK)(l:List Bool)(c i:aD)(w:aH)(h:Sk w k base v l)(j:lS w b1 c)(b:iB c 256)(D:l.length<60000000000000)(q:base<=w.heap.size):Calls prog 100 #[E k, .slice a 0 cap, .agg #[.slice (some (U b1 0)) c.length c.length, .slice (some (U b2 0)) i.length i.length]] w fun e w'=>e= .returned (.tuple #[])/\∃z,Sk w' k base z (l++dN c 256)/\dH k w v w' z:=by
 go_enter func100,ntmps100;go_wp2_with fail;obtain⟨X,p⟩:=aP w.heap.size;obtain⟨w0,f⟩:=aP (w.alloc (.cells #[.slice (some (U b1 0)) c.length c.length, .slice (some (U b2 0)) i.length i.length] 152));have d:O w w0:=by rw[f];exact(aU _ _).alloc _
 have g:w0.heap[X]? =some (.cells #[.slice (some (U b1 0)) c.length c.length, .slice (some (U b2 0)) i.length i.length] 152 (0,0)):=by rw[f,p];exact aR _ _
 obtain⟨F,G,-,-⟩:=gB g;have B:=d.size;have A:=hide (uU k base b1 0 c.length c.length 256 (Go.dM.keyOf c 256) (c[256]?.getD 0) v l w0 (h.step0 d) (lS.cell (d.at_ j (fun x=>x)) b) b.lt b.lo b.hi b.le (by omega) (by omega));have n:=hide (⟨d.mono (fun _ y=>y.elim),fun _ y=> .inl y⟩:dH k w v w0 v);rw[<-p,<-f];clear p f j g d h;go_loopg [10] 1 (fun _ u10 wr=>u10=V 0/\wr=w0);case atStart=>exact⟨rfl,rfl⟩
 case round=>
  obtain⟨rfl,rfl⟩:=hrel;go_wp2_with fail;apply A.o.mono;rintro e w2 ⟨rfl,C,r,t⟩;have u:=hide (aQ r t);go_wp2_with fail;go_end0;exact⟨rfl,C,u.o.1,n.o.trans u.o.2⟩
def Jj (a:List Pc)(i:Nat)(p:Pc)(h:a[i]? =some p):(lM a)[i*3]? =some (.int .u8 (p.b:Nat))/\(lM a)[i*3+1]? =some (V p.l)/\(lM a)[i*3+2]? =some (V p.d):=by
 induction a generalizing i with
 |nil=>simp at h
 |cons x a ih=>
  cases i with
  |zero=>
   simp only[List.getElem?_cons_zero,fH]at h;subst h;exact⟨rfl,rfl,rfl⟩
  |succ i=>
   rw[List.getElem?_cons_succ]at h;have:=ih i h;rw[lM];have c:x.cells.toList.length=3:=rfl;refine⟨?_,?_,?_⟩
   ·rw[kZ (by omega),c,show(i+1)*3-3=i*3 by omega];exact this.1
   ·rw[kZ (by omega),c,show(i+1)*3+1-3=i*3+1 by omega];exact this.2.1
   ·rw[kZ (by omega),c,show(i+1)*3+2-3=i*3+2 by omega];exact this.2.2
def zW (w:aH)(pv:aK)(ps:List Pc):Prop:=(ps=[]/\pv= .slice none 0 0)\/∃j off cap,pv= .slice (some (U j off)) ps.length cap/\j<w.heap.size/\vJ w j off ps
def zW.step0 {w':aH}{e:aK}{d:List Pc}(h:zW w e d)(hs:O w w'):zW w' e d:=by
 rcases h with h|⟨j,off,cap,f,k,g⟩
 ·exact .inl h
 ·refine .inr ⟨j,off,cap,f,by have:=hs.size;omega,fun i p hp=> ?_⟩;obtain⟨a,b,c⟩:=g i p hp;exact⟨hs.cell (p:=(U j _)) a (fun x=>x),hs.cell (p:=(U j _)) b (fun x=>x),hs.cell (p:=(U j _)) c (fun x=>x)⟩
def XF {base:Nat}{e:aK}{a:List Pc}(h:w.ownsRow base 159 3 e a.length (lM a)):zW w e a:=by
 have b:=h;obtain⟨_,⟨c,hn⟩|⟨g,cap,f,c,j,hh,r⟩⟩:=h
 ·exact .inl ⟨kP hn,c⟩
 ·rw[c]at b;refine .inr ⟨g,0,cap,c,aO hh,fun i p hp=> ?_⟩;have hi:i<a.length:=(BD.1 hp).1;have d:=Jj a i p hp;have k:=QX a;refine⟨?_,?_,?_⟩<;>rw[dS]
  ·rw[b.cellAt (i*3) (by omega)];exact d.1
  ·rw[show i*3+1=i*3+1 from rfl,b.cellAt (i*3+1) (by omega)];exact d.2.1
  ·rw[b.cellAt (i*3+2) (by omega)];exact d.2.2
def zY (k base b1 b2:Nat)(v y:aK)(i:List Bool)(g:List Pc)(b f:aD)(w:aH)(h:Sk w k base v i)(hp:zW w y g)(u:∀j off n c,y= .slice (some (U j off)) n c->Off k v j)(l:lS w b1 b)(r:lS w b2 f)(o1:Off k v b1)(o2:Off k v b2)(hn:∀p∈g,Needs b f p)(d:iB b 256)(t:g.length<=1048576)(z:i.length<60000000000000)(a:base<=w.heap.size):Calls prog 100 #[E k,y, .agg #[.slice (some (U b1 0)) b.length b.length, .slice (some (U b2 0)) f.length f.length]] w fun e w'=>e= .returned (.tuple #[])/\∃o bits,Sk w' k base o (i++bits++dN b 256)/\iX b f g bits/\bits.length<=48*g.length/\dH k w v w' o:=by
 rcases hp with⟨rfl,rfl⟩|⟨j,off,cap,rfl,q,B⟩
 ·apply(NI k base b1 b2 0 none v i b f w h l d z a).mono;rintro e w' ⟨rfl,o,A,q⟩;exact⟨rfl,o,[],by rw[bG];exact A,rfl,by simp,q⟩
 ·exact LV k base j off cap b1 b2 v i g b f w h B l r (u j off _ cap rfl) o1 o2 q hn d t z a
def Y6 (s:Nat)(h:s<288):iB aW s:=qD vX CW (by rw[dP];exact h) (by rw[nY];unfold yS;split<;>(try split)<;>(try split)<;>(try split)<;>omega)
def YB (i:Nat):(List.replicate 32 5)[i]?.getD 0<=15:=by rw[lY];split<;>simp
def av7 (s:Nat)(h:s<32):iB (List.replicate 32 5) s:=qD YB II (by simpa using h) (by rw[lY,aA h];simp)
def D7 {ys:aD}(d:∀i:Nat,ys[i]?.getD 0<256):∀{e:List Pc} {q r:Nat},iT ys q e r->∀p∈e,Needs aW (List.replicate 32 5) p
 |[],_,_,_,p,hp=>by simp at hp
 |x::e,q,r,h,p,hp=>by
  rcases fE.1 hp with rfl|hp
  ·rcases h.2.1 with⟨b,a⟩|⟨b,a,j,f,g,k,l,n⟩
   ·refine .inl ⟨b,by rw[a];exact d _,Y6 _ (by rw[a];have:=d q;omega)⟩
   ·exact .inr ⟨b,a,f,g,fun s x m c=>Y6 s (by have:=c.bd;omega),fun s x m c=>av7 s (by have:=c.bd;omega)⟩
  ·exact D7 d h.2.2 p hp
def JK (S:aK)(A:List Pc)(w:aH)(hp:zW w S A)(hn:∀p∈A,Needs aW (List.replicate 32 5) p)(ab:A.length<=1048576):Calls prog 61 #[S] w fun e w'=>∃v' bits,e= .returned v'/\iX aW (List.replicate 32 5) A bits/\bits.length<=48*A.length/\oI w w' v' (bS true 1++bits++dN aW 256):=by
 have hold:∀j off n c,S= .slice (some (U j off)) n c->j<w.heap.size:=by
  intro j off n c R;rcases hp with⟨_,h⟩|⟨j',Q,cap,h,h2,_⟩
  ·rw[R]at h;cases h
  ·rw[R]at h;simp only[nK,fH,wG,jX]at h;rw[h.1.1];exact h2
 have t:∃a n c,S= .slice a n c:=by
  rcases hp with⟨_,h⟩|⟨j',Q,cap,h,_⟩
  ·exact⟨_,_,_,h⟩
  ·exact⟨_,_,_,h⟩
 have HP:=hide hp;obtain⟨pa,pn,pc,rfl⟩:=t;clear hp;go_enter func61,ntmps61;go_wp2_with fail;obtain⟨k,hk⟩:=aP w.heap.size;obtain⟨w2,f⟩:=aP (w.alloc (.cells #[.slice none 0 0,V 0] 103));have J:O w w2:=by rw[f];exact(aU _ _).alloc _
 have ak:w2.heap.size=k+1:=by rw[f,hk];simp
 have z:w2.heap[k]? =some (.cells #[.slice none 0 0,V 0] 103 (0,0)):=by
  rw[f,hk];exact aR _ _
 have ae:Sk w2 k (k+1) (.slice none 0 0) []:=⟨[],z,jJ _ _ _ _,bQ.nil,rfl,by omega⟩
 rw[<-f,<-hk];have aj:w.heap.size<=k:=by omega
 have ag:k<=w.heap.size:=by omega
 clear f hk;apply(zH k (k+1) 1 true (.slice none 0 0) [] w2 ae (by omega) (by simp) (by omega)).mono;rintro r w3 ⟨rfl,v3,C,M⟩;rw[iO]at C;have al:=M.step.size;have F:=hide M;go_wp2_with fail;apply(zZ w3).mono;rintro r w4 ⟨ga,gb,c4,rfl,u,v,K⟩;have am:=K.size;have X:=kF w4 _ (u.cell 0 (by rw[dP];omega));have Y:=kF w4 _ (v.cell 0 (by simp));have W:=M6 ga 0 c4 gb 0 32 aW (List.replicate 32 5) w4 u v X Y (wB vX CW) (wB YB II) (by rw[dP];omega) (by simp);rw[dP,dQ]at W;have HN:=hide W;clear W u v;go_wp2_with fail;apply HN.o.mono;rintro r w5 ⟨b1,b2,rfl,ah,ai,Z,z,ad⟩;have d:O w3 w5:=K.trans ad;have an:=d.size;have l:dH k w2 (.slice none 0 0) w5 v3:=F.o.step0 d;have ac:∀j off n c,Value.slice pa pn pc= .slice (some (U j off)) n c->Off k v3 j:=fun j off n c R=>by
  have h9:=hold j off n c R;exact(show Off k (.slice none 0 0) j from⟨by omega,by simp[Value.ownBlock]⟩).wrt (by omega) F.o
 have aa:zW w5 (.slice pa pn pc) A:=by
  rcases HP.o.step0 J with h|⟨j,off,cap,h1,h2,C⟩
  ·exact .inl h
  ·have ho:Off k (.slice none 0 0) j:=⟨by have:=hold j off _ _ h1;omega,by simp[Value.ownBlock]⟩
   refine .inr ⟨j,off,cap,h1,by omega,fun i p hp=> ?_⟩;obtain⟨a,b,c⟩:=C i p hp;have n:¬(j=k\/(Value.slice none 0 0).ownBlock=some j):=fun y=>y.elim ho.1 ho.2;exact⟨l.step.cell (p:=(U j _)) a n,l.step.cell (p:=(U j _)) b n,l.step.cell (p:=(U j _)) c n⟩
 have hC:=zY k (k+1) b1 b2 v3 (.slice pa pn pc) _ A aW (List.replicate 32 5) w5 (C.step0 d) aa ac Z z (C.off (by omega)) (C.off (by omega)) hn (Y6 256 (by omega)) ab (by rw[aT];omega) (by omega);rw[dP,dQ]at hC;have T:=hide l;go_wp2_with fail;apply hC.mono;rintro r w6 ⟨rfl,v6,bits,q,I,H,N⟩;have P:=T.o.trans N;have HO:=hide (Oz k (k+1) v6 _ w6 q);have HF:=hide (show oI w w6 v6 (bS true 1++bits++dN aW 256) from by
  obtain⟨B,G⟩:=q;refine⟨B,bH G.own (by omega),G.bits,G.len,J.trans' P.step (fun i hi y=> ?_)⟩;rcases y with y|y
  ·omega
  ·cases y)
 obtain⟨va,vn,vc,af⟩:∃a n c,v6= .slice a n c:=by
  obtain⟨B,G⟩:=q;obtain⟨_,⟨hv,_⟩|⟨g,cap,_,hv,_⟩⟩:=G.own
  ·exact⟨_,_,_,hv⟩
  ·exact⟨_,_,_,hv⟩
 subst af;have D:=hide (aQ I H);clear q N P I H;go_wp2_with fail;apply HO.o.mono;rintro r w7 ⟨rfl,rfl⟩;go_wp2_with fail;go_ret;exact⟨_,bits,rfl,D.o.1,D.o.2,HF.o⟩
def AZ (way:Nat)(ys:aD)(Pb:List Bool->Prop):Prop:=∀(u:aK) (w:aH),BytesIn w u ys->bL w->4<=w.heap.size->
 Calls prog 40 #[V (way:Nat),u] w fun e w'=>∃v' bits,e= .returned v'/\Pb bits/\bits.length<=800000000/\oI w w' v' bits
structure at0 (w w':aH)(kind:Nat)(ys:aD)(Pb:List Bool->Prop)(v:aK)(bits:List Bool)(P:aD):Prop where
 pb:Pb bits
 bl:bits.length<=800000000
 bin:bQ bits P
 len:P.length=(bits.length+7)/8
 row:w'.ownsRow w.heap.size 5 1 v (iM kind P ys).length (jR (iM kind P ys))
 st:O w w'
def ab8 (kind way:Nat)(hk:kind<=2)(N:way<=2)(u:aK)(ys:aD)(t:List Bool->Prop)(C:AZ way ys t)(w:aH)(p:BytesIn w u ys)(M:bL w)(H:4<=w.heap.size):Calls prog 26 #[V kind,V way,u] w fun e w'=>∃i bits P,e= .returned (.tuple #[i,V ((0:Nat):Int)])/\at0 w w' kind ys t i bits P:=by
 have A:=hide (C u w p M H);have z:=hide (show∀(w1:aH) (v1:aK) (bits:List Bool),t bits->bits.length<=800000000->oI w w1 v1 bits->∃P,Calls prog 39 #[V kind,v1,u] w1 (fun e w'=>∃i,e= .returned i/\at0 w w' kind ys t i bits P) from fun w1 v1 bits d b hp=>by
  obtain⟨P,F,G,v,y⟩:=Kv hp b;have f:=p.step0 y;have Q:=y.size;refine⟨P,(Vr kind hk v1 u P ys w1 v ⟨f.bytes,f.byte,f.old,by have:=f.len;omega⟩).mono ?_⟩;rintro e w' ⟨i,rfl,I,J⟩;exact⟨i,rfl,d,b,F,G,bH I Q,y.trans J⟩)
 have j:=p.len;obtain⟨X,Y,q⟩:=p.shape;obtain⟨m,D⟩:=aP ys.length;rw[<-D]at q j;subst q;clear p C D;have R:¬(kind:Int)<0:=by omega
 have k2:¬(kind:Int)>2:=by omega
 have y0:¬(way:Int)<0:=by omega
 have y2:¬(way:Int)>2:=by omega
 have m2:¬(m:Int)>1048576:=by omega
 go_enter func26,ntmps26;go_wp2_with fail;apply A.o.mono;rintro r w1 ⟨v1,bits,rfl,d,b,hp⟩;obtain⟨P,g⟩:=z.o w1 v1 bits d b hp;obtain⟨va,vn,vc,rfl⟩:∃a n c,v1= .slice a n c:=by
  obtain⟨B,K,-⟩:=hp;obtain⟨a,c,h⟩:=y8 K;exact⟨a,_,c,h⟩
 clear hp A z d b;go_wp2_with fail;apply g.mono;rintro r w2 ⟨Z,rfl,v⟩;obtain⟨S,T,l⟩:=y8 v.row;obtain⟨W,k⟩:=aP ((iM kind P ys).length);rw[<-k]at l;subst l;clear k;go_wp2_with fail;go_ret2;exact⟨_,bits,P,rfl,v⟩
def ad4 (ys:aD)(bits:List Bool):Prop:=∃ps pb,iT ys 0 ps ys.length/\iX aW (List.replicate 32 5) ps pb/\pb.length<=48*ps.length/\bits=bS true 1++pb++dN aW 256
def Y4 {ys:aD}{bits:List Bool}(h:ad4 ys bits):bits.length<=48*ys.length+18:=by obtain⟨e,pb,a,_,b,rfl⟩:=h;have c:=a.count;have d:=vX 256;rw[aN,aN,aT,fP];omega
def QF (ys:aD)(bits:List Bool):Prop:=ad4 ys bits/\∃ps pb,nE ys 0 ps ys.length/\iT ys 0 ps ys.length/\iX aW (List.replicate 32 5) ps pb/\bits=bS true 1++pb++dN aW 256
def PO (ys:aD):AZ 1 ys (QF ys):=by
 intro u w k _ _;have F:=k.len;have g:∀i:Nat,ys[i]?.getD 0<256:=fun i=>by
  rcases mK i ys.length with y|y
  ·rw[bV y];exact k.byte _ (vE y)
  ·rw[fZ y];exact(by decide)
 have t:=hide g;have J:=hide (find_ok u ys w k);obtain⟨Z,uc,l⟩:=k.shape;obtain⟨m,v⟩:=aP ys.length;rw[<-v]at l;subst l;have T:=hide v;clear k v g;go_enter func40,ntmps40;go_wp2_with fail;apply J.o.mono;rintro r w1 ⟨H,A,rfl,q⟩;have D:=q.pcs.count;have j:=XF q.row;have C:=hide (JK H A w1 j (D7 t.o q.pcs) (by omega));have p:=hide q;obtain⟨pa,Y,X,rfl⟩:∃a n c,H= .slice a n c:=by
  rcases j with⟨_,h⟩|⟨W,G,cap,h,_⟩
  ·exact⟨_,_,_,h⟩
  ·exact⟨_,_,_,h⟩
 go_wp2_with fail;apply C.o.mono;rintro r w2 ⟨I,bits,rfl,b,f,hp⟩;have d:=p.o.st;have S:=d.size;have e:=hide (show∃bits,QF ys bits/\bits.length<=800000000/\oI w w2 I bits from⟨_,⟨⟨A,bits,p.o.pcs,b,f,rfl⟩,A,bits,p.o.are,p.o.pcs,b,rfl⟩,by
   rw[aN,aN,aT,fP];have:=vX 256;omega,by
   obtain⟨B,b1,b2,K,M⟩:=hp;exact⟨B,bH b1 S,b2,K,d.trans M⟩⟩)
 obtain⟨va,vn,vc,z⟩:∃a n c,I= .slice a n c:=by
  obtain⟨B,R,-⟩:=hp;obtain⟨a,c,h⟩:=y8 R;exact⟨a,_,c,h⟩
 subst z;clear hp b f d C;go_wp2_with fail;go_ret;obtain⟨bits,N,P,Q⟩:=e.o;exact⟨_,bits,rfl,N,P,Q⟩
end Go.Proofs.YtbpahojchgpdnaaGreatDoor
