import Derived.Test.YtbpahojchgpdnaaGreatDoorPlaces
import Derived.Test.YtbpahojchgpdnaaGreatDoorGCoding
import Derived.Test.YtbpahojchgpdnaaGreatDoorSinks
set_option maxRecDepth 20000
set_option maxHeartbeats 4000000
set_option linter.all false
namespace Go.Proofs.YtbpahojchgpdnaaGreatDoor
open Go.RowKit Go.Shelf Go.dM Go.Proofs.Tryz
variable {w:aH} {cap g ga gl n q:Nat} {ys:aD}
attribute [local go_sem] Oper.semAt_some
set_option maxRecDepth 100000 in
def WY (F j off cap gl ga c q:Nat)(ys:aD)(L A:Nat->Int)(w:aH)(h:M4 w F j off cap gl ga ys c L A)(hn:c<=q)(hq:q<ys.length):Calls prog 134 #[E F,V q] w fun e w'=>∃(p:Pc) (Q Y:Nat->Int),e= .returned (.agg p.cells)/\Jt ys q p/\M4 w' F j off cap gl ga ys q Q Y/\Step (FS F gl ga) w w':=by
  refine(uV (n:=3)).1 ?_;refine callsIn_of_wp_marks func134 rfl bT ?_ rfl;simp only[ntmps134,xD,iN,pE,Nat.reduceAdd,Nat.reduceSub,BS,CV,AR,CU,iO,jZ];obtain⟨R,Z⟩:=aP w.heap.size;gi_wp2;rw[<-Z];obtain⟨w0,d⟩:=aP ((((w.alloc (.cells #[E F] 156)).alloc (.cells #[V q] 3)).alloc (.cells #[.int .u8 0,V 0,V 0] 159)));have K:O w w0:=by rw[d];exact(((aU _ _).alloc _).alloc _).alloc _
  have ay:w0.heap.size=R+1+1+1:=by rw[d,Z];simp
  have k0:w0.heap[R]? =some (.cells #[E F] 156 (0,0)):=by
    rw[d,Z];exact(dG _ _ _ (by simp;omega)).trans ((dG _ _ _ (by simp)).trans (aR _ _))
  have k1:w0.heap[R+1]? =some (.cells #[V q] 3 (0,0)):=by
    rw[d,Z];have x:=aR (w.alloc (.cells #[E F] 156)) (.cells #[V q] 3);rw[oJ]at x;exact(dG _ _ _ (by simp)).trans x
  have k2:w0.heap[R+1+1]? =some (.cells #[.int .u8 0,V 0,V 0] 159 (0,0)):=by
    rw[d,Z];have x:=aR ((w.alloc (.cells #[E F] 156)).alloc (.cells #[V q] 3)) (.cells #[.int .u8 0,V 0,V 0] 159);rw[oJ,oJ]at x;exact x
  have hF:=aO h.blk;have ac:=h.last.lt;have aa:=h.ahead.lt;have hj:j<w.heap.size:=kF w _ (h.lies q hq);rw[<-d];refine⟨bT,(uV.2 (aj8 F j off cap gl ga c q ys L A w0 (h.step0 K) (by omega))).mono ?_⟩;rintro e w2 ⟨rfl,⟨n',Q,Y,ao,al,z,f⟩⟩;obtain rfl:q=n':=by omega
  have ae:=h.few;have X:=h.byte q;have nR:∀k,R<=k->¬FS F gl ga k:=fun k hk y=>by rcases y with y|y|y<;>omega
  have b0:=f.at_ k0 (nR _ (by omega));have b1:=f.at_ k1 (nR _ (by omega));have b2:=f.at_ k2 (nR _ (by omega));have x0:w2.cell? (U R 0)=some (E F):=aC b0 0 _ rfl;have x1:w2.cell? ⟨R+1,0,none⟩=some (V q):=aC b1 0 _ rfl;have x2:w2.cell? (U F 0)=some (.slice (some (U j off)) ys.length cap):=aC z.blk 0 _ rfl;have x3:=z.lies q hq;have aq:=hide (K.mono (S':=FS F gl ga) (fun _ y=>y.elim) |>.trans f);have B:=hide z;have az:=f.size;obtain⟨v,hv⟩:=aP (ys[q]?.getD 0);rw[<-hv]at x3 X;have HV:=hide hv;obtain⟨nn,C⟩:=aP ys.length;rw[<-C]at x2 hq ae;have ag:=hide C;have q0:(0:Int)<=(q:Int):=by omega
  have q1:(q:Int)<(nn:Int):=by omega
  have z0:R<w2.heap.size:=by omega
  have z1:R+1<w2.heap.size:=by omega
  have z2:R+1+1<w2.heap.size:=by omega
  have zF:F<w2.heap.size:=by omega
  have zj:j<w2.heap.size:=by omega
  have ak:=hide (show F<w.heap.size/\gl<w.heap.size/\ga<w.heap.size/\j<w.heap.size from⟨hF,ac,aa,hj⟩);clear f K z k0 k1 k2 d hv C az ay ao al h nR hF ac aa hj;subst Z;gi_wp2;gi_region;obtain⟨w3,u⟩:=aP ((w2.alloc (.cells #[.int .u8 (v:Nat),V 0,V 0] 159)).drew);have ad:w3.heap.size=w2.heap.size+1:=by rw[u];simp[World.drew]
  have H:O w2 w3:=by rw[u];exact((aU _ _).alloc _).drew
  have ar:w3.heap[w2.heap.size]? =some (.cells #[.int .u8 (v:Nat),V 0,V 0] 159 (0,0)):=by rw[u];exact aR _ _
  have y0:=H.cell x0 (fun y=>y);have y1:=H.cell x1 (fun y=>y);have y2:=H.cell x2 (fun y=>y);rw[<-u];have a0:w.heap.size<w3.heap.size:=by omega
  have a1:w.heap.size+1<w3.heap.size:=by omega
  have aF:F<w3.heap.size:=by omega
  clear u x0 x1 x2 x3;gi_wp2;gi_region;obtain⟨m,hm⟩:=aP (min 258 (nn-q));have ai:(if(nn:Int)-(q:Int)<258 then(nn:Int)-(q:Int)else 258)=(m:Nat):=by split<;>omega
  rw[ai];obtain⟨w4,l⟩:=aP ((w3.alloc (.cells #[V (m:Nat)] 3)).drew);have I:w4.heap.size=w2.heap.size+1+1:=by rw[l];simp[World.drew,ad]
  have G:O w3 w4:=by rw[l];exact((aU _ _).alloc _).drew
  have aj:w4.heap[w2.heap.size+1]? =some (.cells #[V (m:Nat)] 3 (0,0)):=by rw[l,<-ad];exact aR _ _
  have u0:=G.cell y0 (fun y=>y);have u1:=G.cell y1 (fun y=>y);rw[<-l];have N:m<=258:=by omega
  have bc:q+m<=nn:=by omega
  have HM:=hide hm;clear l y0 y1 y2 ai hm;gi_wp2_with (refine⟨bT,?_⟩;gi_at_call 161;apply(Wj _ _ _ _).mono;rintro e w' ⟨rfl,rfl⟩);obtain⟨w5,t⟩:=aP (((w4.alloc (.cells #[E F] 156)).alloc (.cells #[V q] 3)));obtain⟨S,hS⟩:=aP w2.heap.size;have ap:w5.heap.size=S+4:=by rw[t,hS];simp[I]
  have P:O w4 w5:=by rw[t];exact((aU _ _).alloc _).alloc _
  have d0:w5.cell? ⟨S+1+1,0,none⟩=some (E F):=by
    rw[t,hS,<-I];exact aC ((dG _ _ _ (by simp)).trans (aR _ _)) 0 _ rfl
  have d1:w5.cell? ⟨S+1+1+1,0,none⟩=some (V q):=by
    rw[t,hS,<-I];have x:=aR (w4.alloc (.cells #[E F] 156)) (.cells #[V q] 3);rw[oJ]at x;exact aC x 0 _ rfl
  have a:O w2 w5:=(H.trans G).trans P;have M:=B.o.step0 a;have r:=(G.trans P).at_ ar (fun y=>y);have s:=P.at_ aj (fun y=>y);have ax:=a.at_ b0 (fun y=>y);have aw:=a.at_ b1 (fun y=>y);have au:=a.at_ b2 (fun y=>y);rw[<-hS]at r s zF zj z0 z1 z2;have C:=ag.o;have bh:=M.last.lt;have bf:=M.ahead.lt;have bj:=B.o.last.lt;have bb:=B.o.ahead.lt
  have hL:Yq w5 w.heap.size S F j off cap gl ga q m ys Q Y:=
    ⟨⟨M,d0,d1,⟨by omega,by omega,by omega,by omega,by omega,by omega⟩,⟨by omega,by omega,by omega,by omega,by omega,by omega⟩⟩,
     ⟨aU _ _,by
      have e:(GH ys q m (spots ([]:List (pR q)))).cells=#[.int .u8 (v:Nat),V 0,V 0]:=(by rw[HV.o];rfl);rw[e];exact r⟩,ax,aw,s,ap,by omega,N,by omega⟩
  rw[<-t,<-hS];have ab:=hide au;have bg:=hide hS;have ba:F<w.heap.size/\gl<w.heap.size/\ga<w.heap.size/\j<w.heap.size:=ak.o;refine Rw _ w.heap.size S F j off cap gl ga q m ys Q Y w5 hL _ _ _ _ _ _ _ _ _ _ _ _ _ _ _ _ _ _ _ _ _ _ _ _ _ _ _ _ _ _ _ _ _ _ _ _ _ _ _ _ _ _ _ _ _ _ _ _ _ _ _ _ ?_;intro D W hD T ah i hK;have an:=hide ((B.o.step0 a).step T (by obtain⟨a1,a2,a3,a4,a5,a6⟩:=hL.hP.no;obtain⟨l1,l2,l3,l4,l5,l6⟩:=hL.hP.lo;exact⟨by omega,by omega,by omega,by omega⟩));have av:=hide (show Step (FS F gl ga) w W from aq.o.trans' (S':=fun k=>k=S\/S+4<=k) ((a.mono (fun _ y=>y.elim)).trans T) (fun k hk y=>by omega));have f2:=Step.at_ T ab.o (by omega);obtain⟨pc,J⟩:=aP (wW ys q m (chain ys q) ⟨ys[q]?.getD 0,0,0⟩);have am:Jt ys q pc:=by
    obtain⟨pre,i⟩:=i;have h8:=Bz (ys:=ys) (q:=q) (m:=m) (b:=⟨ys[q]?.getD 0,0,0⟩) ⟨hL.most,hL.fits⟩ (Zd pre) ⟨.inl ⟨rfl,rfl⟩,fun y=>absurd rfl y⟩;have x:pc=(spots pre).foldl (rR ys q m) ⟨ys[q]?.getD 0,0,0⟩:=(by rw[J,i];rfl);rw[<-x]at h8;refine⟨h8.1,?_,h8.2⟩;rw[J,MS,HM.o,ag.o]
  rw[<-J]at ah;have be:D≠S:=by omega
  rename_i Kk af;have hT:=Ur (fun e w'=>∃(p:Pc) (Q Y:Nat->Int),e= .returned (.agg p.cells)/\Jt ys q p/\M4 w' F j off cap gl ga ys q Q Y/\Step (FS F gl ga) w w') (w.heap.size+1+1) S D W pc _ _ _ ah f2 hK (by omega) ⟨pc,Q,Y,rfl,am,?_,?_⟩;. exact⟨af _ _ (hT _ _ _ _ _ _ _ _ _ _ _ _ _ _ _ _ _ _ _ _ _ _ _ _ _ _ _ _ _ _ _ _ _ _ _ _ _ _ _ _ _ _ _ _ _ _ _ _ _ _ _ _ _ _ _),af _ _ (hT _ _ _ _ _ _ _ _ _ _ _ _ _ _ _ _ _ _ _ _ _ _ _ _ _ _ _ _ _ _ _ _ _ _ _ _ _ _ _ _ _ _ _ _ _ _ _ _ _ _ _ _ _ _ _)⟩
  . refine an.o.step (S:=fun k=>w.heap.size<=k) ?_ ⟨by omega,by omega,by omega,by omega⟩
    exact((((aU _ W).setCell (p:=⟨w.heap.size+1+1,0,none⟩) (by dsimp only;omega) _).setCell (p:=⟨w.heap.size+1+1,1,none⟩) (by dsimp only;omega) _).setCell (p:=⟨w.heap.size+1+1,2,none⟩) (by dsimp only;omega) _).grown (grownBy_putObj' _ _ _) (fun k e=>by cases e;exact .inl (by omega))
  . exact(((av.o.aZ (p:=⟨w.heap.size+1+1,0,none⟩) (by dsimp only;omega) _).aZ (p:=⟨w.heap.size+1+1,1,none⟩) (by dsimp only;omega) _).aZ (p:=⟨w.heap.size+1+1,2,none⟩) (by dsimp only;omega) _).grown (grownBy_putObj' _ _ _) (fun k e=>by cases e;exact .inr (by omega))
end Go.Proofs.YtbpahojchgpdnaaGreatDoor
namespace Go.Proofs.YtbpahojchgpdnaaGreatDoor
open Go.RowKit Go.dM Go.Proofs.Tryz
variable {w:aH} {cap g ga gl n q:Nat} {ys:aD}
structure Fy (w w':aH)(F j off cap gl ga q:Nat)(ys:aD)(p:Pc):Prop where
 ok:Jz ys q p
 ex:∃n' L' A',n'<=q+max 1 p.l/\M4 w' F j off cap gl ga ys n' L' A'
 st:Step (FS F gl ga) w w'
def YD {w1:aH}{F j off b:Nat}{L A:Nat->Int}{p:Pc}(a:Jz ys q p)(hn:b<=q+max 1 p.l)(d:M4 w1 F j off cap gl ga ys b L A)(hs:Step (FS F gl ga) w w1)(e:F<w.heap.size/\gl<w.heap.size/\ga<w.heap.size/\j<w.heap.size)(u v x:aK):Fy w (((w1.setCell (U w.heap.size 0) u).setCell (U w.heap.size 1) v).setCell (U w.heap.size 2) x) F j off cap gl ga q ys p:=by
 have c:Step (·=w.heap.size) w1 (((w1.setCell (U w.heap.size 0) u).setCell (U w.heap.size 1) v).setCell (U w.heap.size 2) x):=
  (((aU (·=w.heap.size) w1).setCell (p:=(U w.heap.size 0)) rfl _).setCell (p:=(U w.heap.size 1)) rfl _).setCell (p:=(U w.heap.size 2)) rfl _
 exact⟨a,⟨b,L,A,hn,d.step c ⟨by omega,by omega,by omega,by omega⟩⟩,hs.trans' c (fun i hi y=>by omega)⟩
def Fy.alloc {w1:aH}{F j off:Nat}{p:Pc}(h:Fy w w1 F j off cap gl ga q ys p)(o:Obj):Fy w (w1.alloc o) F j off cap gl ga q ys p:=by obtain⟨a,L,A,hn,b⟩:=h.ex;exact⟨h.ok,⟨a,L,A,hn,b.step0 ((aU _ _).alloc o)⟩,h.st.alloc o⟩
def ar4 (F j off cap gl ga f q:Nat)(ys:aD)(L A:Nat->Int)(w:aH)(h:M4 w F j off cap gl ga ys f L A)(hn:f<=q)(hq:q<ys.length):Calls prog 104 #[E F,V q] w fun e w'=>∃p:Pc,e= .returned (.agg p.cells)/\Fy w w' F j off cap gl ga q ys p:=by
 have H:=aO h.blk;have C:=h.last.lt;have B:=h.ahead.lt;have hj:j<w.heap.size:=kF w _ (h.lies q hq);go_enter func104,ntmps104;go_wp2_with fail;obtain⟨w0,G⟩:=aP (w.alloc (.cells #[.int .u8 0,V 0,V 0] 159));have R:O w w0:=by rw[G];exact(aU _ _).alloc _
 have ah:w0.heap[w.heap.size]? =some (.cells #[.int .u8 0,V 0,V 0] 159 (0,0)):=by rw[G];exact aR _ _
 rw[<-G];apply(WY F j off cap gl ga f q ys L A w0 (h.step0 R) hn hq).mono;rintro e w1 ⟨a,L1,A1,rfl,c,ab,aa⟩;have D:=aa.at_ ah (fun y=>by rcases y with y|y|y<;>omega);have al:=aO D;obtain⟨r0,r1,rf0,rf1,P,N⟩:=fV D;have X:=hide ((R.mono (S':=FS F gl ga) (fun _ y=>y.elim)).trans aa);have an:=h.few;unfold Pc.cells;by_cases h0:a.l=0\/32<=a.l
 ·have s:((a.l:Int)==0)=true\/(((a.l:Int)==0)=false/\(a.l:Int)>=32):=by
   by_cases y:a.l=0
   ·exact .inl (dI.2 (by omega))
   ·exact .inr ⟨aX.2 (by omega),by omega⟩
  have K:q<=q+max 1 a.l:=by omega
  have af:=hide (show Jz ys q a from⟨c.ok,by rw[X4,<-c.is_,aA h0],c.pays⟩);rcases s with s|⟨s,am⟩
  all_goals go_wp2_with fail
  all_goals refine aY (v:= .agg a.cells) (by simp[results,results104,go_sem,r0,r1,P,al,Pc.cells]) rfl ⟨a,rfl,?_⟩
  all_goals exact(YD af.o K ab X.o ⟨H,C,B,hj⟩ _ _ _).alloc _
 ·have s:((a.l:Int)==0)=false:=aX.2 (by omega);have am:¬(a.l:Int)>=32:=by omega
  have h3:3<=a.l/\q+a.l<=ys.length:=by
   rcases c.ok with y|y
   ·omega
   ·exact⟨y.1,y.2.2.1⟩
  go_wp2_with fail;obtain⟨w2,m⟩:=aP (w1.alloc (.cells #[.int .u8 (a.b:Nat),V a.l,V a.d] 159));have z:O w1 w2:=by rw[m];exact(aU _ _).alloc _
  have S:w2.heap[w1.heap.size]? =some (.cells #[.int .u8 (a.b:Nat),V a.l,V a.d] 159 (0,0)):=by rw[m];exact aR _ _
  rw[<-m];have t1:w2.cell? (U w1.heap.size 1)=some (V a.l):=aC S 1 _ rfl;obtain⟨J,ad⟩:=aP (q+1);have ao:(q:Int)+1=(J:Int):=by omega
  have aw:IntKind.i64.wrap (J:Int)=(J:Int):=by rw[dK];omega
  have ag:q<=J:=by omega
  have ae:J<ys.length:=by omega
  have aj:=hide ((ab.step0 z).step0 (w':=w2.drew) ((aU (fun _=>False) w2).drew));have ak:w2.drew.cell? (U w1.heap.size 1)=some (V a.l):=t1;have r:=hide ad;have ay:∀(u v x:aK) (w:aH),(Instr.field 159 (.agg #[u,v,x]) 1).run prog w= .ok v w:=fun _ _ _ _=>by kernel_rfl
  have T:¬FS F gl ga w1.heap.size:=fun y=>by rcases y with y|y|y<;>omega
  clear m ad r0 r1 P rf0 rf1 N;go_region_with (go_at_call 134;apply(WY F j off cap gl ga q J ys L1 A1 w2.drew aj.o ag ae).mono;rintro e w3 ⟨p2,L2,A2,rfl,W,k,I⟩;have ax:=I.cell (p:=(U w1.heap.size 1)) ak T;unfold Pc.cells)
  all_goals (
   have i:Step (FS F gl ga) w2 w3:=((aU _ w2).drew).trans I
   have ai:¬FS F gl ga w.heap.size:=fun y=>by rcases y with y|y|y<;>omega
   have M:=i.at_ S T
   have Q:=i.at_ (z.at_ D (fun y=>y)) ai
   have t:Step (FS F gl ga) w w3:=(X.o.trans (z.mono (fun _ y=>y.elim))).trans i
   obtain⟨r0,r1,rf0,rf1,P,N⟩:=fV Q
   obtain⟨s0,s1,av,ar,s2,aq⟩:=fV M
   have au:¬w1.heap.size=w.heap.size:=by omega
   have ap:¬w.heap.size=w1.heap.size:=by omega
   have ac:=mK a.l p2.l
   clear i Q M I
   rcases ac with Y|Y
   ·have Z:(p2.l:Int)>(a.l:Int):=by omega
    have x2:w3.cell? (U F 0)=some (.slice (some (U j off)) ys.length cap):=aC k.blk 0 _ rfl
    have x3:=k.lies q hq
    obtain⟨v,hv⟩:=aP (ys[q]?.getD 0)
    rw[<-hv]at x3
    have HV:=hide hv
    have i0:(0:Int)<=(q:Int):=by omega
    have i1:(q:Int)<(ys.length:Int):=by omega
    clear hv
    go_wp2_with fail
    refine aY (v:= .agg (Pc.cells ⟨v,0,0⟩)) (by simp[results,results104,go_sem,r0,r1,P,Pc.cells]) rfl ⟨⟨v,0,0⟩,rfl,?_⟩
    exact YD ⟨.inl ⟨rfl,HV.o⟩,by rw[X4,<-c.is_,aB h0,<-r.o,<-W.is_,aA Y,HV.o],fun y=>absurd rfl y⟩ (by have:=r.o;dsimp only;omega) k t ⟨H,C,B,hj⟩ _ _ _
   ·have Z:¬(p2.l:Int)>(a.l:Int):=by omega
    go_wp2_with fail
    refine aY (v:= .agg a.cells) (by simp[results,results104,go_sem,r0,r1,P,Pc.cells]) rfl ⟨a,rfl,?_⟩
    exact YD ⟨c.ok,by rw[X4,<-c.is_,aB h0,<-r.o,<-W.is_,aB (by omega)],c.pays⟩ (by have:=r.o;omega) k t ⟨H,C,B,hj⟩ _ _ _)
open Go.Maps
def Ro (b:Nat)(w:aH)(c:b<10000000):Calls prog 180 #[.int .u64 1, .int .u64 (b:Nat)] w fun e w'=>e= .returned (.tuple #[.int .u64 0, .int .u64 (b:Nat)])/\w'=w:=by
 have m1:=Dz b (by omega);have m2:bits .and .u64 (1:Int) 4294967295=1:=by decide
 have a:bits .and .u64 (0:Int) 4294967295=0:=by decide
 have f:(b:Int)/4294967296=0:=by omega
 have d:(b:Int)/2^32=0:=by omega
 go_enter func180,ntmps180;go_wp2;go_ret2;exact⟨rfl,rfl⟩
def am0 (b:Nat)(w:aH)(a:b<10000000):Calls prog 159 #[.int .u64 1, .int .u64 (b:Nat)] w fun e w'=>e= .returned (.tuple #[.int .u64 0, .int .u64 (b:Nat)])/\w'=w:=by go_enter func159,ntmps159;go_wp2_with (go_at_call 180;apply(Ro b _ a).mono;rintro e w' ⟨rfl,rfl⟩);go_ret2;exact⟨rfl,rfl⟩
abbrev di (c:Int)(n:Nat):List aK:=List.replicate n (V c)
def XT (c:Int)(a n m:Nat)(b:a+m<=n):splice (di c a++di 0 (n-a)) a (di c m)=di c (a+m)++di 0 (n-(a+m)):=by unfold splice;rw[UA (by simp),kW (by simp),dQ,GK,J8 (by simp),dQ,iO,List.drop_replicate,<-dB,List.replicate_append_replicate];congr 2;simp;omega
def ai4 {a:Nat}{c:Int}(h:w.heap[g]? =some (.cells (di c a++di 0 (n-a)).toArray 3 (0,0)))(d:a<=n)(j:Nat)(b:j<a):w.cell? (U g j)=some (V c):=by refine aC h j _ ?_;rw[CZ,jA (by simp;exact b),lY,aA b]
def aq6 {base:Nat}(h:w.ownsRow base 3 1 (.slice (some (U g 0)) n n) n (madeCells (V 0).cells (n*1)).toList):w.heap[g]? =some (.cells (di 0 0++di 0 (n-0)).toArray 3 (0,0)):=by
 rw[QK h];have e:(madeCells (V 0).cells (n*1)).toList=List.replicate n (V 0):=by rw[wT];exact OQ _ _
 rw[e];simp[di]
def Jy (k:Nat)(c:Int)(n cap:Nat)(w:aH)(Y:w.cell? (U k 0)=some (V c))(B:1<=n)(hn:n<=40000)(J:1<=cap):Calls prog 133 #[.slice (some (U k 0)) 1 cap,V n] w fun e w'=>∃g,e= .returned (.slice (some (U g 0)) n n)/\w.heap.size<=g/\w'.heap[g]? =some (.cells (di c n).toArray 3 (0,0))/\Below w.heap.size w w':=by
 obtain⟨i0,hi,Q,L,S⟩:=eD info3;have N:=kF w _ Y;obtain⟨G,hG⟩:=aP w.heap.size;have HG:=hide hG;go_enter func133,ntmps133;go_wp2_with (first
  |(go_at_call 159;apply(am0 n _ (by omega)).mono;rintro e w' ⟨rfl,y⟩;rw[y];clear y w')
  |(at_make;refine sD _ rfl _ _ 57 rfl w.heap.size 3 i0 (V 0) 1 underlying57 hi Q L .i64 .i64 _ _ n rfl rfl rfl rfl (by rw[S];omega) (by unfold maxLen;omega) (aS _) ?_;intro w1 f r;have a:=aq6 f;have b:=(qK w.heap.size w).grown r (aS _) (fun k hk=>by cases hk);have H:=(b.cell (p:=(U k 0)) N).trans Y;have C:=hide a;have A:=hide b;clear f r a b)
  |(refine wpList_copy_splice rfl (.tmp 31) (.tmp 32) 57 57 rfl 3 underlying57 Pd _ _ n n 1 cap rfl rfl w.heap.size 0 (di 0 0++di 0 (n-0)) 3 C.o (di c 1) ?s1 ?s2 ?s3 ?s4 w.heap.size w A.o (aS _) ?_;rotate_right;intro w2 x s))
 case s1=>simp only[dQ];exact(vV B).symm
 case s2=>
  intro j v D;match j,D with
  |0,D=>simp at D;subst D;exact H
 case s3=>simp;omega
 case s4=>intro v d;simp at d;subst d;rfl
 rw[show di 0 0=di c 0 from rfl,XT c 0 n 1 (by omega),dS]at x;have M:=hide x.o;go_loopw [8] (fun bp wr=>∃j:Nat,1<=j/\j<=n/\bp=V j/\wr.heap[w.heap.size]? =some (.cells (di c j++di 0 (n-j)).toArray 3 (0,0))/\Below w.heap.size w wr) (fun bp _=>n-(intOf bp).toNat);case atStart=>exact⟨1,by omega,B,rfl,M.o,s⟩
 case round=>
  obtain⟨j,K,F,rfl,a,b⟩:=hrel;by_cases af:j<n
  ·obtain⟨m,l⟩:=aP (Nat.min j (n-j));have ah:m<=j:=(by rw[l];exact Nat.min_le_left _ _);have Z:m<=n-j:=(by rw[l];exact Nat.min_le_right _ _);have z:j+m<=n:=(by clear l;omega);have ag:IntKind.i64.wrap ((j:Int)+(m:Int))=(j:Int)+(m:Int):=(by clear l;rw[dK];omega);have ae:1<=m:=(by rw[l];exact Nat.le_min.2 ⟨K,by omega⟩);have aa:¬n=j:=(by omega);have ac:(j:Int)<=(n:Int):=(by omega);have ab:(0:Int)<=(j:Int):=(by omega);have W:(di c m).length=Nat.min j (n-j):=(by rw[dQ];exact l);have R:0<(di c m).length->∃X,(some (U w.heap.size 0):Option Addr)=some X/\∀i v,(di c m)[i]? =some v->wr.drew.cell? (X.add i)=some v:=by
    intro _;refine⟨_,rfl,?_⟩;intro i v d;rw[lY]at d;split at d
    ·injection d with d;subst d;have:=ai4 a F i (by omega);rw[show(Addr.add (U w.heap.size 0) i)=(U w.heap.size i) by simp[Addr.add];omega];exact this
    ·cases d
   have T:j+(di c m).length<=(di c j++di 0 (n-j)).length:=(by simp only[aN,dQ];omega);have u:∀v∈di c m,v.oneCell'=true:=(by intro v d;rw[List.eq_of_mem_replicate d];rfl);have HM:=hide l;have H8:=hide u;clear l u;go_wp2_with fail;go_region_law (refine step_copy_splice rfl (.tmp 41) (.tmp 44) 57 57 rfl 3 underlying57 Pd (some (U w.heap.size j)) (some (U w.heap.size 0)) (n-j) (n-j) j n (by simp[Act.eval,Act.put]) (by simp[Act.eval,Act.put]) w.heap.size j (di c j++di 0 (n-j)) 3 a (di c m) W (fun h=>⟨rfl,R h⟩) T H8.o w.heap.size w b.drew (aS _) ?_;intro w3 I t;rw[show(di c m).length=m from dQ]);go_simp;go_roundw;case rel=>
    refine⟨_,_,_,_,_,_,_,_,_,_,_,_,_,_,⟨j+m,by omega,z,?ga,?gb,t⟩,rfl⟩;case ga=>go_num
    have:=I.o;rw[XT c j n m z]at this;exact this
   case measure=>simp[intOf];omega
  ·obtain rfl:j=n:=by omega
   have P:wr.heap[w.heap.size]? =some (.cells (di c j).toArray 3 (0,0)):=by
    rw[a,uL];simp[di]
   go_wp2_with fail;go_ret;exact⟨_,rfl,aS _,P,b⟩
def Bh {c:Int}(h:w.heap[g]? =some (.cells (di c n).toArray 3 (0,0))):bA w g 3 n (fun _=>V c):=⟨_,h,by simp,fun i hi=>by rw[CZ,lY,aA hi]⟩
structure au5 (w w':aH)(a:Option Addr)(n cap F gl ga:Nat):Prop where
 blk:w'.heap[F]? =some (.cells #[.slice a n cap,V 0, .slice (some (U gl 0)) 32768 32768, .slice (some (U ga 0)) n n] 182 (0,0))
 last:bA w' gl 3 32768 (fun _=>V (-1))
 ahead:bA w' ga 3 n (fun _=>V 0)
 apart:F≠gl/\F≠ga/\gl≠ga
 new:w.heap.size<=F/\w.heap.size<=gl/\w.heap.size<=ga
 st:O w w'
def SN {a b:aH}(h:Below a.heap.size a b):O a b:=⟨h.os,h.tape,h.output,h.size,fun k hk _=>h.block k hk⟩
def Zb {w2:aH}{a:Option Addr}(hs:O w w2)(e:w2.heap[gl]? =some (.cells (di (-1) 32768).toArray 3 (0,0)))(d:w.heap.size<=gl)(f:w2.heap[ga]? =some (.cells (di 0 n).toArray 3 (0,0)))(c:w.heap.size<=ga)(b:gl≠ga):au5 w (w2.alloc (.cells #[.slice a n cap,V 0, .slice (some (U gl 0)) 32768 32768, .slice (some (U ga 0)) n n] 182)) a n cap w2.heap.size gl ga:=by have i:=aO e;have j:=aO f;exact⟨aR _ _,(Bh e).alloc _,(Bh f).alloc _,⟨by omega,by omega,b⟩,⟨hs.size,d,c⟩,hs.alloc _⟩
def aw0 {w2:aH}{a:Option Addr}(hs:O w w2)(c:w2.heap[gl]? =some (.cells (di (-1) 32768).toArray 3 (0,0)))(b:w.heap.size<=gl):au5 w ((w2.alloc (.cells (di 0 n).toArray 3)).alloc (.cells #[.slice a n cap,V 0, .slice (some (U gl 0)) 32768 32768, .slice (some (U w2.heap.size 0)) n n] 182)) a n cap (w2.heap.size+1) gl w2.heap.size:=by have d:=aO c;have h:=Zb (w2:=w2.alloc (.cells (di 0 n).toArray 3)) (a:=a) (cap:=cap) (hs.alloc _) ((dG _ _ _ d).trans c) b (aR _ _) hs.size (by omega);rw[oJ]at h;exact h
def Uu (w:aH)(p:Addr):w.drew.cell? p=w.cell? p:=rfl
def En (w:aH)(v:aK)(t:TypeId):(w.alloc (.cells #[v] t)).cell? (U w.heap.size 0)=some v:=aC (aR _ _) 0 _ rfl
def Qz (w:aH)(v:aK)(t:TypeId)(o:Obj):((w.alloc (.cells #[v] t)).alloc o).cell? (U w.heap.size 0)=some v:=aC ((dG _ _ _ (by simp)).trans (aR _ _)) 0 _ rfl
def Wo (w:aH)(v:aK)(t:TypeId)(o:Obj):((w.alloc o).alloc (.cells #[v] t)).cell? ⟨w.heap.size+1,0,none⟩=some v:=by have h:=En (w.alloc o) v t;rwa[oJ]at h
def J2 (a:Option Addr)(n cap:Nat)(w:aH)(hn:n<=1048576):Calls prog 103 #[.slice a n cap] w fun e w'=>∃F gl ga,e= .returned (E F)/\au5 w w' a n cap F gl ga:=by
 obtain⟨y,hi,s,m,t⟩:=eD info3;obtain⟨c,f⟩:∃c:Array aK,c=(di 0 n).toArray:=⟨_,rfl⟩
 have z:∀w:aH,(Instr.makeSlice 57 (V (n:Int)) (V (n:Int))).run prog w= .ok (.slice (some (U w.heap.size 0)) n n) (w.alloc (.cells c 3)):=by
  intro w;have h:=run_make (P:=prog) w 57 3 y (V 0) underlying57 hi s .i64 .i64 n n (by omega) (Int.le_refl _) (by rw[t];omega) (by omega);have e:madeCells (V 0).cells ((n:Int).toNat*y.size)=c:=by
   rw[f,m];apply Array.ext';rw[show((n:Int).toNat*1)=n by omega];exact OQ _ _
  rw[e]at h;exact h
 have i:=hide f;clear f;go_enter func103,ntmps103;go_wp2_with fail;go_region_with (go_at_call 133;refine(Jy _ (-1) 32768 1 _ (by rw[Uu];first|exact En _ _ _|exact Qz _ _ _ _|exact Wo _ _ _ _) (by decide) (by decide) (by decide)).mono ?_;rintro e w2 ⟨g,rfl,v,d,b⟩);all_goals have r:=v
 all_goals simp only[World.drew,oJ]at r
 all_goals have p:=b.size
 all_goals simp only[World.drew,oJ]at p
 all_goals have u:=aO d
 all_goals have x:=hide d
 all_goals have HB:=hide b
 all_goals clear d b v
 all_goals go_wp2_with fail
 all_goals go_ret
 ·refine⟨w2.heap.size+1,g,w2.heap.size,rfl,?_⟩;rw[i.o];exact aw0 (((aU _ _).alloc _).drew.trans (SN HB.o)) x.o (by omega)
 focus
  refine⟨w2.heap.size,g,w.heap.size+1,rfl,?_⟩;have j:=HB.o;have k:=aR (w.alloc (.cells #[V (-1)] 3)) (.cells c 3);rw[oJ]at k;have l:=(j.block (w.heap.size+1) (by simp[World.drew])).trans k
 rotate_left;focus
  refine⟨w2.heap.size,g,w.heap.size,rfl,?_⟩;have j:=HB.o;have k:=(dG (w.alloc (.cells c 3)) (.cells #[V (-1)] 3) w.heap.size (by simp)).trans (aR w (.cells c 3));have l:=(j.block w.heap.size (by simp[World.drew];omega)).trans k
 all_goals
  rw[i.o]at l;exact Zb ((((aU _ _).alloc _).alloc _).drew.trans (SN j)) x.o (by omega) l (by omega) (by omega)
end Go.Proofs.YtbpahojchgpdnaaGreatDoor
namespace Go.Proofs.YtbpahojchgpdnaaGreatDoor
open Go.RowKit Go.dM Go.Proofs.Tryz
variable {w:aH} {cap g ga gl n q:Nat} {ys:aD}
def iT (ys:aD):Nat->List Pc->Nat->Prop
 |q,[],r=>q=r
 |q,p::ps,r=>q<ys.length/\NN ys q p/\iT ys (q+max 1 p.l) ps r
def iT.snoc {ys:aD}{p:Pc}{r:Nat}:∀{a:List Pc} {q:Nat},iT ys q a r->r<ys.length->NN ys r p->iT ys q (a++[p]) (r+max 1 p.l)
 |[],q,h,hr,hp=>by
  have:q=r:=h
  subst this
  exact⟨hr,hp,rfl⟩
 |_::_,_,h,hr,hp=>⟨h.1,h.2.1,iT.snoc h.2.2 hr hp⟩
def iT.count {ys:aD}{r:Nat}:∀{a:List Pc} {q:Nat},iT ys q a r->q+a.length<=r
 |[],q,h=>by have:q=r:=h;simp;omega
 |p::a,q,h=>by have:=iT.count h.2.2;simp only[iN];omega
def NN.fits {p:Pc}(h:NN ys q p)(a:q<ys.length):q+max 1 p.l<=ys.length:=by rcases h with⟨h,_⟩|⟨_,_,h,_⟩<;>omega
def nE (ys:aD):Nat->List Pc->Nat->Prop
 |q,[],r=>q=r
 |q,p::ps,r=>(p=X4 ys q/\(p.l≠0->mU p.l p.d=true))/\nE ys (q+max 1 p.l) ps r
def nE.snoc {ys:aD}{p:Pc}{r:Nat}:∀{a:List Pc} {q:Nat},nE ys q a r->p=X4 ys r/\(p.l≠0->mU p.l p.d=true)->nE ys q (a++[p]) (r+max 1 p.l)
 |[],q,h,hp=>by
  have:q=r:=h
  subst this
  exact⟨hp,rfl⟩
 |_::_,_,h,hp=>⟨h.1,nE.snoc h.2 hp⟩
def nE.le {ys:aD}{r:Nat}:∀{a:List Pc} {q:Nat},nE ys q a r->q<=r
 |[],q,h=>by have:q=r:=h;omega
 |p::a,q,h=>by have:=nE.le h.2;omega
def nE.one {ys:aD}{r:Nat}:∀{b a:List Pc} {q:Nat},nE ys q b r->nE ys q a r->b=a
 |[],[],_,_,_=>rfl
 |[],p::b,q,h,h'=>by
  have e:q=r:=h
  have:=nE.le h'.2
  omega
 |p::b,[],q,h,h'=>by
  have e:q=r:=h'
  have:=nE.le h.2
  omega
 |p::b,p'::a,q,h,h'=>by
  have e:p=p':=h.1.1.trans h'.1.1.symm
  subst e
  rw[nE.one h.2 h'.2]
def lM:List Pc->List aK
 |[]=>[]
 |p::ps=>p.cells.toList++lM ps
def QX (a:List Pc):(lM a).length=a.length*3:=by
 induction a with
 |nil=>rfl
 |cons p a ih=>rw[lM,aN,ih];simp[Pc.cells];omega
def Y2 (a:List Pc)(p:Pc):lM (a++[p])=lM a++p.cells.toList:=by
 induction a with
 |nil=>simp[lM]
 |cons x a ih=>rw[jZ,lM,ih,lM,dB]
def av3:(prog.info? 159).map (fun i=>(i.zero,i.size,i.bytes))=some (some (.agg #[.int .u8 0,V 0,V 0]),3,24):=by kernel_rfl
def af2:prog.underlying 109=some (.slice 159):=by kernel_rfl
def tV {w':aH}{S:Nat->Prop}{base:Nat}{e:TypeId}{size:Nat}{v:aK}{xs:List aK}(h:w.ownsRow base e size v n xs)(hs:Step S w w')(hn:∀k,base<=k->¬S k):w'.ownsRow base e size v n xs:=by
 obtain⟨b,f|⟨g,cap,a,d,c,hh,r⟩⟩:=h
 ·exact⟨b, .inl f⟩
 ·exact⟨b, .inr ⟨g,cap,a,d,c,hs.at_ hh (hn g c),r⟩⟩
structure as9 (w w':aH)(ys:aD)(v:aK)(ps:List Pc):Prop where
 pcs:iT ys 0 ps ys.length
 are:nE ys 0 ps ys.length
 row:w'.ownsRow w.heap.size 159 3 v ps.length (lM ps)
 st:O w w'
def af4 (a:Option Addr)(cap:Nat)(w:aH):Calls prog 62 #[.slice a 0 cap] w fun e w'=>e= .returned (.slice none 0 0)/\O w w':=by
 go_enter func62,ntmps62;go_wp2_with fail;apply(J2 a 0 cap w (by decide)).mono;rintro e w1 ⟨F,gl,ga,rfl,c⟩;have d:=hide c.st;clear c;go_wp2_with fail;go_loopw [3,5] (fun u3 u5 wr=>u3= .slice none 0 0/\u5=V 0/\O w wr) (fun _ _ _=>0);case atStart=>exact⟨rfl,rfl,d.o⟩
 case round=>
  obtain⟨rfl,rfl,b⟩:=hrel;go_wp2_with fail;go_ret;exact⟨rfl,b⟩
def Uh (j off cap:Nat)(ys:aD)(w:aH)(hl:nI w j off ys)(hj:j<w.heap.size)(hb:∀i:Nat,ys[i]?.getD 0<256)(hf:ys.length<=1048576):Calls prog 62 #[.slice (some (U j off)) ys.length cap] w fun e w'=>∃v m,e= .returned v/\as9 w w' ys v m:=by
 obtain⟨i0,hi,al,ai,M⟩:=eD av3;go_enter func62,ntmps62;go_wp2_with fail;apply(J2 (some (U j off)) ys.length cap w hf).mono;rintro e w1 ⟨F,gl,ga,rfl,c⟩
 have a:M4 w1 F j off cap gl ga ys 0 (fun _=> -1) (fun _=>0):=
  ⟨c.blk,fun i hi=>c.st.cell (p:=⟨j,off+i,none⟩) (hl i hi) (fun y=>y),hb,hf,c.last,c.ahead,⟨c.apart.1,c.apart.2.1,c.apart.2.2,by have:=c.new;omega,by have:=c.new;omega,by have:=c.new;omega⟩,fun _ _=> .inl rfl,fun p hp _=>by omega,rfl,rfl⟩
 have an:=c.new;have af:=aO a.blk;have Q:=a.last.lt;have K:=a.ahead.lt;have HS:=hide c.st;have hB:=c.st.size;go_wp2_with fail;obtain⟨B,Z⟩:=aP w1.heap.size;rw[<-Z]at af Q K hB;go_loopw [3,5] (fun u3 u5 wr=>∃(at_ n':Nat) (v:aK) (m:List Pc) (L A:Nat->Int),u5=V at_/\u3=v/\at_<=ys.length/\n'<=at_/\M4 wr F j off cap gl ga ys n' L A/\(iT ys 0 m at_/\nE ys 0 m at_)/\wr.ownsRow B 159 3 v m.length (lM m)/\B<=wr.heap.size/\O w wr) (fun _ u5 _=>ys.length-(intOf u5).toNat);case atStart=>exact⟨0,0,_,[],_,_,rfl,rfl,by omega,by omega,a,⟨rfl,rfl⟩,⟨rfl, .inl ⟨rfl,rfl⟩⟩,by omega,HS.o⟩
 case round=>
  obtain⟨q,n',v,m,L,A,rfl,rfl,hq,ae,a,s,x,au,Y⟩:=hrel;by_cases G:q<ys.length
  ·have X:(q:Int)<(ys.length:Int):=(by omega);go_wp2_with fail;apply(ar4 F j off cap gl ga n' q ys L A wr a ae G).mono;rintro e w2 ⟨p,rfl,ag⟩;obtain⟨r,⟨n2,L2,A2,ac,aa⟩,z⟩:=ag;have T:∀k,B<=k->¬FS F gl ga k:=fun k hk y=>by rcases y with y|y|y<;>omega
   have f:=tV x z T;have S:O w w2:=Y.trans' z (fun i hi y=>by rcases y with y|y|y<;>omega);have aw:=z.size;have aq:p.l<=258:=by rcases r.ok with y|y<;>omega
   have R:=r.ok.fits G;have am:=s.1.count;unfold Pc.cells;obtain⟨P,hP⟩:=aP w2.heap.size;have ap:(if(p.l:Int)<1 then 1 else(p.l:Int))=((max 1 p.l:Nat):Int):=(by split<;>omega);go_wp2_with (at_builtin;refine fQ _ rfl _ _ 109 rfl B 159 i0 _ 3 24 af2 hi al ai M rfl (by decide) _ m.length (lM m) rfl (by exact(f.alloc _).alloc _) ⟨w2.heap.size+1,0,none⟩ 1 1 p.cells.toList rfl rfl ?c1 ?c2 (by decide) ?c3 ?c4 ?c5 ?_);case c1=>
    intro i u hu;have I:=aR (w2.alloc (.cells #[.int .u8 (p.b:Nat),V p.l,V p.d] 159)) (.cells #[.int .u8 (p.b:Nat),V p.l,V p.d] 159);rw[oJ]at I;have h8:=aC I i u (by rw[<-hu];simp[Pc.cells]);rw[show(Addr.add ⟨w2.heap.size+1,0,none⟩ i)=⟨w2.heap.size+1,i,none⟩ by simp[Addr.add];omega];exact h8
   case c2=>
    intro u hu;simp[Pc.cells]at hu;rcases hu with rfl|rfl|rfl<;>rfl
   case c3=>unfold maxLen;omega
   case c4=>omega
   case c5=>simp;omega
   intro g ao w5 W C hg;have N:∀k,u3.ownBlock=some k->B<=k/\k<w2.heap.size:=fun k hk=>f.lt k hk;obtain⟨w4,D⟩:=aP ((w2.alloc (.cells #[.int .u8 (p.b:Nat),V p.l,V p.d] 159)).alloc (.cells #[.int .u8 (p.b:Nat),V p.l,V p.d] 159));rw[<-D]at C;have ak:O w2 w4:=(by rw[D];exact((aU _ _).alloc _).alloc _);have J:w4.heap[w2.heap.size]? =some (.cells #[.int .u8 (p.b:Nat),V p.l,V p.d] 159 (0,0)):=by
    rw[D];exact(dG _ _ _ (by simp)).trans (aR _ _)
   have aj:=(C.block w2.heap.size (aO J) (fun e=>by have:=(N _ e.symm).2;omega)).trans J;have c1:w5.cell? (U w2.heap.size 1)=some (V p.l):=aC aj 1 _ rfl;have H:Step (fun k=>B<=k) w2 w5:=(ak.mono (fun _ y=>y.elim)).grown C (fun k e=> .inl (N k e).1);have ah:=hide (aa.step H ⟨by omega,by omega,by omega,by omega⟩);have ad:=hide (show O w w5 from S.trans' H (fun i hi y=>by omega));have ar:=H.size;have av:IntKind.i64.wrap ((q:Int)+((max 1 p.l:Nat):Int))=(q:Int)+((max 1 p.l:Nat):Int):=(by rw[dK];omega);go_wp2_with fail;have t:(q:Int)+(if(1:Int)<(p.l:Int)then(p.l:Int)else 1)=((q+max 1 p.l:Nat):Int):=(by split<;>omega);go_roundw;case rel=>
    rw[t];refine⟨q+max 1 p.l,n2,_,m++[p],L2,A2,rfl,rfl,R,ac,ah.o,⟨s.1.snoc G r.ok,s.2.snoc ⟨r.is_,r.pays⟩⟩,?_,by omega,ad.o⟩;rw[Y2,aN,Z];exact W
   case measure=>
    rw[t];simp only[intOf];omega
  ·have X:¬(q:Int)<(ys.length:Int):=(by omega);go_wp2_with fail;go_ret;have ab:q=ys.length:=(by omega);have I:=s;rw[ab]at I;exact⟨_,rfl,m,I.1,I.2,bH x hB,Y⟩
def find_ok (u:aK)(ys:aD)(w:aH)(h:BytesIn w u ys):Calls prog 62 #[u] w fun e w'=>∃v d,e= .returned v/\as9 w w' ys v d:=by
 rcases h.bytes with⟨a,c,rfl,rfl⟩|⟨j,off,cap,rfl,b⟩
 ·apply(af4 a c w).mono;rintro e w' ⟨rfl,hs⟩;exact⟨_,[],rfl,rfl,rfl,⟨rfl, .inl ⟨rfl,rfl⟩⟩,hs⟩
 ·refine Uh j off cap ys w b (h.old j off _ cap rfl) (fun i=> ?_) h.len;rcases mK i ys.length with y|y
  ·rw[bV y];exact h.byte _ (vE y)
  ·rw[fZ y];exact(by decide)
end Go.Proofs.YtbpahojchgpdnaaGreatDoor
