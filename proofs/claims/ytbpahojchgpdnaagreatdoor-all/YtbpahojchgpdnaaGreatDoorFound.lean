import Derived.Test.YtbpahojchgpdnaaGreatDoorPlaces
import Derived.Test.YtbpahojchgpdnaaGreatDoorGCoding
import Derived.Test.YtbpahojchgpdnaaGreatDoorSinks
set_option maxRecDepth 20000
set_option maxHeartbeats 4000000
set_option linter.all false
namespace Go.Proofs.YtbpahojchgpdnaaGreatDoor
open Go.RowKit Go.Shelf Go.dM Go.Proofs.Tryz
variable {w:aH} {cap g ga gl n q:Nat} {ys:aD}
attribute [local go_sem] Oper.semAt_some
set_option maxRecDepth 100000 in
def WY (F j off cap gl ga d q:Nat)(ys:aD)(L A:Nat->Int)(w:aH)(h:M4 w F j off cap gl ga ys d L A)(hn:d<=q)(hq:q<ys.length):Calls prog 134 #[E F,V q] w fun e w'=>∃(p:Pc) (J I:Nat->Int),e= .returned (.agg p.cells)/\Jt ys q p/\M4 w' F j off cap gl ga ys q J I/\Step (FS F gl ga) w w':=by
  refine(uV (n:=3)).1 ?_;refine callsIn_of_wp_marks func134 rfl bT ?_ rfl;simp only[ntmps134,xD,iN,pE,Nat.reduceAdd,Nat.reduceSub,BS,CV,AR,CU,iO,jZ];obtain⟨R,Z⟩:=aP w.heap.size;gi_wp2;rw[<-Z];obtain⟨w0,c⟩:=aP ((((w.alloc (.cells #[E F] 156)).alloc (.cells #[V q] 3)).alloc (.cells #[.int .u8 0,V 0,V 0] 159)));have Q:O w w0:=by rw[c];exact(((aU _ _).alloc _).alloc _).alloc _
  have ax:w0.heap.size=R+1+1+1:=by rw[c,Z];simp
  have k0:w0.heap[R]? =some (.cells #[E F] 156 (0,0)):=by
    rw[c,Z];exact(dG _ _ _ (by simp;omega)).trans ((dG _ _ _ (by simp)).trans (aR _ _))
  have k1:w0.heap[R+1]? =some (.cells #[V q] 3 (0,0)):=by
    rw[c,Z];have x:=aR (w.alloc (.cells #[E F] 156)) (.cells #[V q] 3);rw[oJ]at x;exact(dG _ _ _ (by simp)).trans x
  have k2:w0.heap[R+1+1]? =some (.cells #[.int .u8 0,V 0,V 0] 159 (0,0)):=by
    rw[c,Z];have x:=aR ((w.alloc (.cells #[E F] 156)).alloc (.cells #[V q] 3)) (.cells #[.int .u8 0,V 0,V 0] 159);rw[oJ,oJ]at x;exact x
  have hF:=aO h.blk;have ag:=h.last.lt;have af:=h.ahead.lt;have hj:j<w.heap.size:=kF w _ (h.lies q hq);rw[<-c];refine⟨bT,(uV.2 (aj8 F j off cap gl ga d q ys L A w0 (h.step0 Q) (by omega))).mono ?_⟩;rintro e w2 ⟨rfl,⟨n',J,I,au,av,B,f⟩⟩;obtain rfl:q=n':=by omega
  have ae:=h.few;have K:=h.byte q;have nR:∀k,R<=k->¬FS F gl ga k:=fun k hk y=>by rcases y with y|y|y<;>omega
  have b0:=f.at_ k0 (nR _ (by omega));have b1:=f.at_ k1 (nR _ (by omega));have b2:=f.at_ k2 (nR _ (by omega));have x0:w2.cell? (U R 0)=some (E F):=aC b0 0 _ rfl;have x1:w2.cell? ⟨R+1,0,none⟩=some (V q):=aC b1 0 _ rfl;have x2:w2.cell? (U F 0)=some (.slice (some (U j off)) ys.length cap):=aC B.blk 0 _ rfl;have x3:=B.lies q hq;have al:=hide (Q.mono (S':=FS F gl ga) (fun _ y=>y.elim) |>.trans f);have z:=hide B;have ay:=f.size;obtain⟨v,hv⟩:=aP (ys[q]?.getD 0);rw[<-hv]at x3 K;have HV:=hide hv;obtain⟨nn,C⟩:=aP ys.length;rw[<-C]at x2 hq ae;have ab:=hide C;have q0:(0:Int)<=(q:Int):=by omega
  have q1:(q:Int)<(nn:Int):=by omega
  have z0:R<w2.heap.size:=by omega
  have z1:R+1<w2.heap.size:=by omega
  have z2:R+1+1<w2.heap.size:=by omega
  have zF:F<w2.heap.size:=by omega
  have zj:j<w2.heap.size:=by omega
  have ak:=hide (show F<w.heap.size/\gl<w.heap.size/\ga<w.heap.size/\j<w.heap.size from⟨hF,ag,af,hj⟩);clear f Q B k0 k1 k2 c hv C ay ax au av h nR hF ag af hj;subst Z;gi_wp2;gi_region;obtain⟨w3,s⟩:=aP ((w2.alloc (.cells #[.int .u8 (v:Nat),V 0,V 0] 159)).drew);have ai:w3.heap.size=w2.heap.size+1:=by rw[s];simp[World.drew]
  have G:O w2 w3:=by rw[s];exact((aU _ _).alloc _).drew
  have aq:w3.heap[w2.heap.size]? =some (.cells #[.int .u8 (v:Nat),V 0,V 0] 159 (0,0)):=by rw[s];exact aR _ _
  have y0:=G.cell x0 (fun y=>y);have y1:=G.cell x1 (fun y=>y);have y2:=G.cell x2 (fun y=>y);rw[<-s];have a0:w.heap.size<w3.heap.size:=by omega
  have a1:w.heap.size+1<w3.heap.size:=by omega
  have aF:F<w3.heap.size:=by omega
  clear s x0 x1 x2 x3;gi_wp2;gi_region;obtain⟨m,hm⟩:=aP (min 258 (nn-q));have ah:(if(nn:Int)-(q:Int)<258 then(nn:Int)-(q:Int)else 258)=(m:Nat):=by split<;>omega
  rw[ah];obtain⟨w4,t⟩:=aP ((w3.alloc (.cells #[V (m:Nat)] 3)).drew);have Y:w4.heap.size=w2.heap.size+1+1:=by rw[t];simp[World.drew,ai]
  have H:O w3 w4:=by rw[t];exact((aU _ _).alloc _).drew
  have ar:w4.heap[w2.heap.size+1]? =some (.cells #[V (m:Nat)] 3 (0,0)):=by rw[t,<-ai];exact aR _ _
  have u0:=H.cell y0 (fun y=>y);have u1:=H.cell y1 (fun y=>y);rw[<-t];have N:m<=258:=by omega
  have be:q+m<=nn:=by omega
  have HM:=hide hm;clear t y0 y1 y2 ah hm;gi_wp2_with (refine⟨bT,?_⟩;gi_at_call 161;apply(Wj _ _ _ _).mono;rintro e w' ⟨rfl,rfl⟩);obtain⟨w5,u⟩:=aP (((w4.alloc (.cells #[E F] 156)).alloc (.cells #[V q] 3)));obtain⟨S,hS⟩:=aP w2.heap.size;have az:w5.heap.size=S+4:=by rw[u,hS];simp[Y]
  have T:O w4 w5:=by rw[u];exact((aU _ _).alloc _).alloc _
  have d0:w5.cell? ⟨S+1+1,0,none⟩=some (E F):=by
    rw[u,hS,<-Y];exact aC ((dG _ _ _ (by simp)).trans (aR _ _)) 0 _ rfl
  have d1:w5.cell? ⟨S+1+1+1,0,none⟩=some (V q):=by
    rw[u,hS,<-Y];have x:=aR (w4.alloc (.cells #[E F] 156)) (.cells #[V q] 3);rw[oJ]at x;exact aC x 0 _ rfl
  have a:O w2 w5:=(G.trans H).trans T;have M:=z.o.step0 a;have i:=(H.trans T).at_ aq (fun y=>y);have l:=T.at_ ar (fun y=>y);have an:=a.at_ b0 (fun y=>y);have ao:=a.at_ b1 (fun y=>y);have ap:=a.at_ b2 (fun y=>y);rw[<-hS]at i l zF zj z0 z1 z2;have C:=ab.o;have bj:=M.last.lt;have bh:=M.ahead.lt;have bg:=z.o.last.lt;have bf:=z.o.ahead.lt
  have hL:Yq w5 w.heap.size S F j off cap gl ga q m ys J I:=
    ⟨⟨M,d0,d1,⟨by omega,by omega,by omega,by omega,by omega,by omega⟩,⟨by omega,by omega,by omega,by omega,by omega,by omega⟩⟩,
     ⟨aU _ _,by
      have e:(GH ys q m (spots ([]:List (pR q)))).cells=#[.int .u8 (v:Nat),V 0,V 0]:=(by rw[HV.o];rfl);rw[e];exact i⟩,an,ao,l,az,by omega,N,by omega⟩
  rw[<-u,<-hS];have aa:=hide ap;have bb:=hide hS;have ba:F<w.heap.size/\gl<w.heap.size/\ga<w.heap.size/\j<w.heap.size:=ak.o;refine Rw _ w.heap.size S F j off cap gl ga q m ys J I w5 hL _ _ _ _ _ _ _ _ _ _ _ _ _ _ _ _ _ _ _ _ _ _ _ _ _ _ _ _ _ _ _ _ _ _ _ _ _ _ _ _ _ _ _ _ _ _ _ _ _ _ _ _ ?_;intro D W hD X ad r hK;have aj:=hide ((z.o.step0 a).step X (by obtain⟨a1,a2,a3,a4,a5,a6⟩:=hL.hP.no;obtain⟨l1,l2,l3,l4,l5,l6⟩:=hL.hP.lo;exact⟨by omega,by omega,by omega,by omega⟩));have am:=hide (show Step (FS F gl ga) w W from al.o.trans' (S':=fun k=>k=S\/S+4<=k) ((a.mono (fun _ y=>y.elim)).trans X) (fun k hk y=>by omega));have f2:=Step.at_ X aa.o (by omega);obtain⟨pc,P⟩:=aP (wW ys q m (chain ys q) ⟨ys[q]?.getD 0,0,0⟩);have aw:Jt ys q pc:=by
    obtain⟨pre,r⟩:=r;have h8:=Bz (ys:=ys) (q:=q) (m:=m) (b:=⟨ys[q]?.getD 0,0,0⟩) ⟨hL.most,hL.fits⟩ (Zd pre) ⟨.inl ⟨rfl,rfl⟩,fun y=>absurd rfl y⟩;have x:pc=(spots pre).foldl (rR ys q m) ⟨ys[q]?.getD 0,0,0⟩:=(by rw[P,r];rfl);rw[<-x]at h8;refine⟨h8.1,?_,h8.2⟩;rw[P,MS,HM.o,ab.o]
  rw[<-P]at ad;have bc:D≠S:=by omega
  rename_i Kk ac;have hT:=Ur (fun e w'=>∃(p:Pc) (J I:Nat->Int),e= .returned (.agg p.cells)/\Jt ys q p/\M4 w' F j off cap gl ga ys q J I/\Step (FS F gl ga) w w') (w.heap.size+1+1) S D W pc _ _ _ ad f2 hK (by omega) ⟨pc,J,I,rfl,aw,?_,?_⟩;. exact⟨ac _ _ (hT _ _ _ _ _ _ _ _ _ _ _ _ _ _ _ _ _ _ _ _ _ _ _ _ _ _ _ _ _ _ _ _ _ _ _ _ _ _ _ _ _ _ _ _ _ _ _ _ _ _ _ _ _ _ _),ac _ _ (hT _ _ _ _ _ _ _ _ _ _ _ _ _ _ _ _ _ _ _ _ _ _ _ _ _ _ _ _ _ _ _ _ _ _ _ _ _ _ _ _ _ _ _ _ _ _ _ _ _ _ _ _ _ _ _)⟩
  . refine aj.o.step (S:=fun k=>w.heap.size<=k) ?_ ⟨by omega,by omega,by omega,by omega⟩
    exact((((aU _ W).setCell (p:=⟨w.heap.size+1+1,0,none⟩) (by dsimp only;omega) _).setCell (p:=⟨w.heap.size+1+1,1,none⟩) (by dsimp only;omega) _).setCell (p:=⟨w.heap.size+1+1,2,none⟩) (by dsimp only;omega) _).grown (grownBy_putObj' _ _ _) (fun k e=>by cases e;exact .inl (by omega))
  . exact(((am.o.aZ (p:=⟨w.heap.size+1+1,0,none⟩) (by dsimp only;omega) _).aZ (p:=⟨w.heap.size+1+1,1,none⟩) (by dsimp only;omega) _).aZ (p:=⟨w.heap.size+1+1,2,none⟩) (by dsimp only;omega) _).grown (grownBy_putObj' _ _ _) (fun k e=>by cases e;exact .inr (by omega))
end Go.Proofs.YtbpahojchgpdnaaGreatDoor
namespace Go.Proofs.YtbpahojchgpdnaaGreatDoor
open Go.RowKit Go.dM Go.Proofs.Tryz
variable {w:aH} {cap g ga gl n q:Nat} {ys:aD}
structure Fy (w w':aH)(F j off cap gl ga q:Nat)(ys:aD)(p:Pc):Prop where
 ok:Jz ys q p
 ex:∃n' L' A',n'<=q+max 1 p.l/\M4 w' F j off cap gl ga ys n' L' A'
 st:Step (FS F gl ga) w w'
def YD {w1:aH}{F j off b:Nat}{L A:Nat->Int}{p:Pc}(a:Jz ys q p)(hn:b<=q+max 1 p.l)(d:M4 w1 F j off cap gl ga ys b L A)(hs:Step (FS F gl ga) w w1)(e:F<w.heap.size/\gl<w.heap.size/\ga<w.heap.size/\j<w.heap.size)(u v x:aK):Fy w (((w1.setCell (U w.heap.size 0) u).setCell (U w.heap.size 1) v).setCell (U w.heap.size 2) x) F j off cap gl ga q ys p:=by
 have c:Step (·=w.heap.size) w1 (((w1.setCell (U w.heap.size 0) u).setCell (U w.heap.size 1) v).setCell (U w.heap.size 2) x):=
  (((aU (·=w.heap.size) w1).setCell (p:=(U w.heap.size 0)) rfl _).setCell (p:=(U w.heap.size 1)) rfl _).setCell (p:=(U w.heap.size 2)) rfl _
 exact⟨a,⟨b,L,A,hn,d.step c ⟨by omega,by omega,by omega,by omega⟩⟩,hs.trans' c (fun i hi y=>by omega)⟩
def Fy.alloc {w1:aH}{F j off:Nat}{p:Pc}(h:Fy w w1 F j off cap gl ga q ys p)(o:Obj):Fy w (w1.alloc o) F j off cap gl ga q ys p:=by obtain⟨b,L,A,hn,a⟩:=h.ex;exact⟨h.ok,⟨b,L,A,hn,a.step0 ((aU _ _).alloc o)⟩,h.st.alloc o⟩
def ar4 (F j off cap gl ga f q:Nat)(ys:aD)(L A:Nat->Int)(w:aH)(h:M4 w F j off cap gl ga ys f L A)(hn:f<=q)(hq:q<ys.length):Calls prog 104 #[E F,V q] w fun e w'=>∃p:Pc,e= .returned (.agg p.cells)/\Fy w w' F j off cap gl ga q ys p:=by
 have z:=aO h.blk;have C:=h.last.lt;have B:=h.ahead.lt;have hj:j<w.heap.size:=kF w _ (h.lies q hq);go_enter func104,ntmps104;go_wp2_with fail;obtain⟨w0,I⟩:=aP (w.alloc (.cells #[.int .u8 0,V 0,V 0] 159));have aa:O w w0:=by rw[I];exact(aU _ _).alloc _
 have aj:w0.heap[w.heap.size]? =some (.cells #[.int .u8 0,V 0,V 0] 159 (0,0)):=by rw[I];exact aR _ _
 rw[<-I];apply(WY F j off cap gl ga f q ys L A w0 (h.step0 aa) hn hq).mono;rintro e w1 ⟨a,L1,A1,rfl,c,P,ab⟩;have D:=ab.at_ aj (fun y=>by rcases y with y|y|y<;>omega);have ak:=aO D;obtain⟨r0,r1,rf0,rf1,r2,ac⟩:=fV D;have K:=hide ((aa.mono (S':=FS F gl ga) (fun _ y=>y.elim)).trans ab);have am:=h.few;unfold Pc.cells;by_cases h0:a.l=0\/32<=a.l
 ·have m:((a.l:Int)==0)=true\/(((a.l:Int)==0)=false/\(a.l:Int)>=32):=by
   by_cases y:a.l=0
   ·exact .inl (dI.2 (by omega))
   ·exact .inr ⟨aX.2 (by omega),by omega⟩
  have T:q<=q+max 1 a.l:=by omega
  have ae:=hide (show Jz ys q a from⟨c.ok,by rw[X4,<-c.is_,aA h0],c.pays⟩);rcases m with m|⟨m,af⟩
  all_goals go_wp2_with fail
  all_goals refine aY (v:= .agg a.cells) (by simp[results,results104,go_sem,r0,r1,r2,ak,Pc.cells]) rfl ⟨a,rfl,?_⟩
  all_goals exact(YD ae.o T P K.o ⟨z,C,B,hj⟩ _ _ _).alloc _
 ·have m:((a.l:Int)==0)=false:=aX.2 (by omega);have af:¬(a.l:Int)>=32:=by omega
  have h3:3<=a.l/\q+a.l<=ys.length:=by
   rcases c.ok with y|y
   ·omega
   ·exact⟨y.1,y.2.2.1⟩
  go_wp2_with fail;obtain⟨w2,s⟩:=aP (w1.alloc (.cells #[.int .u8 (a.b:Nat),V a.l,V a.d] 159));have G:O w1 w2:=by rw[s];exact(aU _ _).alloc _
  have Z:w2.heap[w1.heap.size]? =some (.cells #[.int .u8 (a.b:Nat),V a.l,V a.d] 159 (0,0)):=by rw[s];exact aR _ _
  rw[<-s];have t1:w2.cell? (U w1.heap.size 1)=some (V a.l):=aC Z 1 _ rfl;obtain⟨J,Y⟩:=aP (q+1);have aq:(q:Int)+1=(J:Int):=by omega
  have ar:IntKind.i64.wrap (J:Int)=(J:Int):=by rw[dK];omega
  have ah:q<=J:=by omega
  have ai:J<ys.length:=by omega
  have ad:=hide ((P.step0 G).step0 (w':=w2.drew) ((aU (fun _=>False) w2).drew));have al:w2.drew.cell? (U w1.heap.size 1)=some (V a.l):=t1;have k:=hide Y;have ap:∀(u v x:aK) (w:aH),(Instr.field 159 (.agg #[u,v,x]) 1).run prog w= .ok v w:=fun _ _ _ _=>by kernel_rfl
  have W:¬FS F gl ga w1.heap.size:=fun y=>by rcases y with y|y|y<;>omega
  clear s Y r0 r1 r2 rf0 rf1 ac;go_region_with (go_at_call 134;apply(WY F j off cap gl ga q J ys L1 A1 w2.drew ad.o ah ai).mono;rintro e w3 ⟨p2,L2,A2,rfl,X,r,H⟩;have ax:=H.cell (p:=(U w1.heap.size 1)) al W;unfold Pc.cells)
  all_goals (
   have i:Step (FS F gl ga) w2 w3:=((aU _ w2).drew).trans H
   have ag:¬FS F gl ga w.heap.size:=fun y=>by rcases y with y|y|y<;>omega
   have N:=i.at_ Z W
   have M:=i.at_ (G.at_ D (fun y=>y)) ag
   have t:Step (FS F gl ga) w w3:=(K.o.trans (G.mono (fun _ y=>y.elim))).trans i
   obtain⟨r0,r1,rf0,rf1,r2,ac⟩:=fV M
   obtain⟨s0,s1,au,av,s2,aw⟩:=fV N
   have ao:¬w1.heap.size=w.heap.size:=by omega
   have an:¬w.heap.size=w1.heap.size:=by omega
   have S:=mK a.l p2.l
   clear i M N H
   rcases S with Q|Q
   ·have R:(p2.l:Int)>(a.l:Int):=by omega
    have x2:w3.cell? (U F 0)=some (.slice (some (U j off)) ys.length cap):=aC r.blk 0 _ rfl
    have x3:=r.lies q hq
    obtain⟨v,hv⟩:=aP (ys[q]?.getD 0)
    rw[<-hv]at x3
    have HV:=hide hv
    have i0:(0:Int)<=(q:Int):=by omega
    have i1:(q:Int)<(ys.length:Int):=by omega
    clear hv
    go_wp2_with fail
    refine aY (v:= .agg (Pc.cells ⟨v,0,0⟩)) (by simp[results,results104,go_sem,r0,r1,r2,Pc.cells]) rfl ⟨⟨v,0,0⟩,rfl,?_⟩
    exact YD ⟨.inl ⟨rfl,HV.o⟩,by rw[X4,<-c.is_,aB h0,<-k.o,<-X.is_,aA Q,HV.o],fun y=>absurd rfl y⟩ (by have:=k.o;dsimp only;omega) r t ⟨z,C,B,hj⟩ _ _ _
   ·have R:¬(p2.l:Int)>(a.l:Int):=by omega
    go_wp2_with fail
    refine aY (v:= .agg a.cells) (by simp[results,results104,go_sem,r0,r1,r2,Pc.cells]) rfl ⟨a,rfl,?_⟩
    exact YD ⟨c.ok,by rw[X4,<-c.is_,aB h0,<-k.o,<-X.is_,aB (by omega)],c.pays⟩ (by have:=k.o;omega) r t ⟨z,C,B,hj⟩ _ _ _)
open Go.Maps
def Ro (b:Nat)(w:aH)(d:b<10000000):Calls prog 180 #[.int .u64 1, .int .u64 (b:Nat)] w fun e w'=>e= .returned (.tuple #[.int .u64 0, .int .u64 (b:Nat)])/\w'=w:=by
 have m1:=Dz b (by omega);have m2:bits .and .u64 (1:Int) 4294967295=1:=by decide
 have f:bits .and .u64 (0:Int) 4294967295=0:=by decide
 have a:(b:Int)/4294967296=0:=by omega
 have c:(b:Int)/2^32=0:=by omega
 go_enter func180,ntmps180;go_wp2;go_ret2;exact⟨rfl,rfl⟩
def am0 (b:Nat)(w:aH)(a:b<10000000):Calls prog 159 #[.int .u64 1, .int .u64 (b:Nat)] w fun e w'=>e= .returned (.tuple #[.int .u64 0, .int .u64 (b:Nat)])/\w'=w:=by go_enter func159,ntmps159;go_wp2_with (go_at_call 180;apply(Ro b _ a).mono;rintro e w' ⟨rfl,rfl⟩);go_ret2;exact⟨rfl,rfl⟩
abbrev di (c:Int)(n:Nat):List aK:=List.replicate n (V c)
def XT (c:Int)(a n m:Nat)(b:a+m<=n):splice (di c a++di 0 (n-a)) a (di c m)=di c (a+m)++di 0 (n-(a+m)):=by unfold splice;rw[UA (by simp),kW (by simp),dQ,GK,J8 (by simp),dQ,iO,List.drop_replicate,<-dB,List.replicate_append_replicate];congr 2;simp;omega
def ai4 {a:Nat}{c:Int}(h:w.heap[g]? =some (.cells (di c a++di 0 (n-a)).toArray 3 (0,0)))(d:a<=n)(j:Nat)(b:j<a):w.cell? (U g j)=some (V c):=by refine aC h j _ ?_;rw[CZ,jA (by simp;exact b),lY,aA b]
def aq6 {base:Nat}(h:w.ownsRow base 3 1 (.slice (some (U g 0)) n n) n (madeCells (V 0).cells (n*1)).toList):w.heap[g]? =some (.cells (di 0 0++di 0 (n-0)).toArray 3 (0,0)):=by
 rw[QK h];have e:(madeCells (V 0).cells (n*1)).toList=List.replicate n (V 0):=by rw[wT];exact OQ _ _
 rw[e];simp[di]
def Jy (k:Nat)(c:Int)(n cap:Nat)(w:aH)(Z:w.cell? (U k 0)=some (V c))(A:1<=n)(hn:n<=40000)(H:1<=cap):Calls prog 133 #[.slice (some (U k 0)) 1 cap,V n] w fun e w'=>∃g,e= .returned (.slice (some (U g 0)) n n)/\w.heap.size<=g/\w'.heap[g]? =some (.cells (di c n).toArray 3 (0,0))/\Below w.heap.size w w':=by
 obtain⟨i0,hi,S,T,W⟩:=eD info3;have M:=kF w _ Z;obtain⟨G,hG⟩:=aP w.heap.size;have HG:=hide hG;go_enter func133,ntmps133;go_wp2_with (first
  |(go_at_call 159;apply(am0 n _ (by omega)).mono;rintro e w' ⟨rfl,C⟩;rw[C];clear C w')
  |(at_make;refine sD _ rfl _ _ 57 rfl w.heap.size 3 i0 (V 0) 1 underlying57 hi S T .i64 .i64 _ _ n rfl rfl rfl rfl (by rw[W];omega) (by unfold maxLen;omega) (aS _) ?_;intro w1 d l;have b:=aq6 d;have a:=(qK w.heap.size w).grown l (aS _) (fun k hk=>by cases hk);have R:=(a.cell (p:=(U k 0)) M).trans Z;have x:=hide b;have u:=hide a;clear d l b a)
  |(refine wpList_copy_splice rfl (.tmp 31) (.tmp 32) 57 57 rfl 3 underlying57 Pd _ _ n n 1 cap rfl rfl w.heap.size 0 (di 0 0++di 0 (n-0)) 3 x.o (di c 1) ?s1 ?s2 ?s3 ?s4 w.heap.size w u.o (aS _) ?_;rotate_right;intro w2 y s))
 case s1=>simp only[dQ];exact(vV A).symm
 case s2=>
  intro j v D;match j,D with
  |0,D=>simp at D;subst D;exact R
 case s3=>simp;omega
 case s4=>intro v f;simp at f;subst f;rfl
 rw[show di 0 0=di c 0 from rfl,XT c 0 n 1 (by omega),dS]at y;have F:=hide y.o;go_loopw [8] (fun bp wr=>∃j:Nat,1<=j/\j<=n/\bp=V j/\wr.heap[w.heap.size]? =some (.cells (di c j++di 0 (n-j)).toArray 3 (0,0))/\Below w.heap.size w wr) (fun bp _=>n-(intOf bp).toNat);case atStart=>exact⟨1,by omega,A,rfl,F.o,s⟩
 case round=>
  obtain⟨j,K,L,rfl,b,a⟩:=hrel;by_cases ac:j<n
  ·obtain⟨m,r⟩:=aP (Nat.min j (n-j));have af:m<=j:=(by rw[r];exact Nat.min_le_left _ _);have Y:m<=n-j:=(by rw[r];exact Nat.min_le_right _ _);have z:j+m<=n:=(by clear r;omega);have ah:IntKind.i64.wrap ((j:Int)+(m:Int))=(j:Int)+(m:Int):=(by clear r;rw[dK];omega);have ae:1<=m:=(by rw[r];exact Nat.le_min.2 ⟨K,by omega⟩);have ag:¬n=j:=(by omega);have ab:(j:Int)<=(n:Int):=(by omega);have aa:(0:Int)<=(j:Int):=(by omega);have N:(di c m).length=Nat.min j (n-j):=(by rw[dQ];exact r);have P:0<(di c m).length->∃X,(some (U w.heap.size 0):Option Addr)=some X/\∀i v,(di c m)[i]? =some v->wr.drew.cell? (X.add i)=some v:=by
    intro _;refine⟨_,rfl,?_⟩;intro i v f;rw[lY]at f;split at f
    ·injection f with f;subst f;have:=ai4 b L i (by omega);rw[show(Addr.add (U w.heap.size 0) i)=(U w.heap.size i) by simp[Addr.add];omega];exact this
    ·cases f
   have Q:j+(di c m).length<=(di c j++di 0 (n-j)).length:=(by simp only[aN,dQ];omega);have B:∀v∈di c m,v.oneCell'=true:=(by intro v f;rw[List.eq_of_mem_replicate f];rfl);have HM:=hide r;have H8:=hide B;clear r B;go_wp2_with fail;go_region_law (refine step_copy_splice rfl (.tmp 41) (.tmp 44) 57 57 rfl 3 underlying57 Pd (some (U w.heap.size j)) (some (U w.heap.size 0)) (n-j) (n-j) j n (by simp[Act.eval,Act.put]) (by simp[Act.eval,Act.put]) w.heap.size j (di c j++di 0 (n-j)) 3 b (di c m) N (fun h=>⟨rfl,P h⟩) Q H8.o w.heap.size w a.drew (aS _) ?_;intro w3 I t;rw[show(di c m).length=m from dQ]);go_simp;go_roundw;case rel=>
    refine⟨_,_,_,_,_,_,_,_,_,_,_,_,_,_,⟨j+m,by omega,z,?ga,?gb,t⟩,rfl⟩;case ga=>go_num
    have:=I.o;rw[XT c j n m z]at this;exact this
   case measure=>simp[intOf];omega
  ·obtain rfl:j=n:=by omega
   have J:wr.heap[w.heap.size]? =some (.cells (di c j).toArray 3 (0,0)):=by
    rw[b,uL];simp[di]
   go_wp2_with fail;go_ret;exact⟨_,rfl,aS _,J,a⟩
def Bh {c:Int}(h:w.heap[g]? =some (.cells (di c n).toArray 3 (0,0))):bA w g 3 n (fun _=>V c):=⟨_,h,by simp,fun i hi=>by rw[CZ,lY,aA hi]⟩
structure au5 (w w':aH)(a:Option Addr)(n cap F gl ga:Nat):Prop where
 blk:w'.heap[F]? =some (.cells #[.slice a n cap,V 0, .slice (some (U gl 0)) 32768 32768, .slice (some (U ga 0)) n n] 182 (0,0))
 last:bA w' gl 3 32768 (fun _=>V (-1))
 ahead:bA w' ga 3 n (fun _=>V 0)
 apart:F≠gl/\F≠ga/\gl≠ga
 new:w.heap.size<=F/\w.heap.size<=gl/\w.heap.size<=ga
 st:O w w'
def SN {a b:aH}(h:Below a.heap.size a b):O a b:=⟨h.os,h.tape,h.output,h.size,fun k hk _=>h.block k hk⟩
def Zb {w2:aH}{a:Option Addr}(hs:O w w2)(f:w2.heap[gl]? =some (.cells (di (-1) 32768).toArray 3 (0,0)))(c:w.heap.size<=gl)(e:w2.heap[ga]? =some (.cells (di 0 n).toArray 3 (0,0)))(b:w.heap.size<=ga)(d:gl≠ga):au5 w (w2.alloc (.cells #[.slice a n cap,V 0, .slice (some (U gl 0)) 32768 32768, .slice (some (U ga 0)) n n] 182)) a n cap w2.heap.size gl ga:=by have i:=aO f;have j:=aO e;exact⟨aR _ _,(Bh f).alloc _,(Bh e).alloc _,⟨by omega,by omega,d⟩,⟨hs.size,c,b⟩,hs.alloc _⟩
def aw0 {w2:aH}{a:Option Addr}(hs:O w w2)(c:w2.heap[gl]? =some (.cells (di (-1) 32768).toArray 3 (0,0)))(b:w.heap.size<=gl):au5 w ((w2.alloc (.cells (di 0 n).toArray 3)).alloc (.cells #[.slice a n cap,V 0, .slice (some (U gl 0)) 32768 32768, .slice (some (U w2.heap.size 0)) n n] 182)) a n cap (w2.heap.size+1) gl w2.heap.size:=by have d:=aO c;have h:=Zb (w2:=w2.alloc (.cells (di 0 n).toArray 3)) (a:=a) (cap:=cap) (hs.alloc _) ((dG _ _ _ d).trans c) b (aR _ _) hs.size (by omega);rw[oJ]at h;exact h
def Uu (w:aH)(p:Addr):w.drew.cell? p=w.cell? p:=rfl
def En (w:aH)(v:aK)(t:TypeId):(w.alloc (.cells #[v] t)).cell? (U w.heap.size 0)=some v:=aC (aR _ _) 0 _ rfl
def Qz (w:aH)(v:aK)(t:TypeId)(o:Obj):((w.alloc (.cells #[v] t)).alloc o).cell? (U w.heap.size 0)=some v:=aC ((dG _ _ _ (by simp)).trans (aR _ _)) 0 _ rfl
def Wo (w:aH)(v:aK)(t:TypeId)(o:Obj):((w.alloc o).alloc (.cells #[v] t)).cell? ⟨w.heap.size+1,0,none⟩=some v:=by have h:=En (w.alloc o) v t;rwa[oJ]at h
def J2 (a:Option Addr)(n cap:Nat)(w:aH)(hn:n<=1048576):Calls prog 103 #[.slice a n cap] w fun e w'=>∃F gl ga,e= .returned (E F)/\au5 w w' a n cap F gl ga:=by
 obtain⟨y,hi,r,s,t⟩:=eD info3;obtain⟨c,d⟩:∃c:Array aK,c=(di 0 n).toArray:=⟨_,rfl⟩
 have z:∀w:aH,(Instr.makeSlice 57 (V (n:Int)) (V (n:Int))).run prog w= .ok (.slice (some (U w.heap.size 0)) n n) (w.alloc (.cells c 3)):=by
  intro w;have h:=run_make (P:=prog) w 57 3 y (V 0) underlying57 hi r .i64 .i64 n n (by omega) (Int.le_refl _) (by rw[t];omega) (by omega);have e:madeCells (V 0).cells ((n:Int).toNat*y.size)=c:=by
   rw[d,s];apply Array.ext';rw[show((n:Int).toNat*1)=n by omega];exact OQ _ _
  rw[e]at h;exact h
 have i:=hide d;clear d;go_enter func103,ntmps103;go_wp2_with fail;go_region_with (go_at_call 133;refine(Jy _ (-1) 32768 1 _ (by rw[Uu];first|exact En _ _ _|exact Qz _ _ _ _|exact Wo _ _ _ _) (by decide) (by decide) (by decide)).mono ?_;rintro e w2 ⟨g,rfl,v,f,b⟩);all_goals have p:=v
 all_goals simp only[World.drew,oJ]at p
 all_goals have m:=b.size
 all_goals simp only[World.drew,oJ]at m
 all_goals have x:=aO f
 all_goals have u:=hide f
 all_goals have HB:=hide b
 all_goals clear f b v
 all_goals go_wp2_with fail
 all_goals go_ret
 ·refine⟨w2.heap.size+1,g,w2.heap.size,rfl,?_⟩;rw[i.o];exact aw0 (((aU _ _).alloc _).drew.trans (SN HB.o)) u.o (by omega)
 focus
  refine⟨w2.heap.size,g,w.heap.size+1,rfl,?_⟩;have k:=HB.o;have j:=aR (w.alloc (.cells #[V (-1)] 3)) (.cells c 3);rw[oJ]at j;have l:=(k.block (w.heap.size+1) (by simp[World.drew])).trans j
 rotate_left;focus
  refine⟨w2.heap.size,g,w.heap.size,rfl,?_⟩;have k:=HB.o;have j:=(dG (w.alloc (.cells c 3)) (.cells #[V (-1)] 3) w.heap.size (by simp)).trans (aR w (.cells c 3));have l:=(k.block w.heap.size (by simp[World.drew];omega)).trans j
 all_goals
  rw[i.o]at l;exact Zb ((((aU _ _).alloc _).alloc _).drew.trans (SN k)) u.o (by omega) l (by omega) (by omega)
end Go.Proofs.YtbpahojchgpdnaaGreatDoor
namespace Go.Proofs.YtbpahojchgpdnaaGreatDoor
open Go.RowKit Go.dM Go.Proofs.Tryz
variable {w:aH} {cap g ga gl n q:Nat} {ys:aD}
def iT (ys:aD):Nat->List Pc->Nat->Prop
 |q,[],r=>q=r
 |q,p::ps,r=>q<ys.length/\NN ys q p/\iT ys (q+max 1 p.l) ps r
def iT.snoc {ys:aD}{p:Pc}{r:Nat}:∀{a:List Pc} {q:Nat},iT ys q a r->r<ys.length->NN ys r p->iT ys q (a++[p]) (r+max 1 p.l)
 |[],q,h,hr,hp=>by
  have:q=r:=h
  subst this
  exact⟨hr,hp,rfl⟩
 |_::_,_,h,hr,hp=>⟨h.1,h.2.1,iT.snoc h.2.2 hr hp⟩
def iT.count {ys:aD}{r:Nat}:∀{a:List Pc} {q:Nat},iT ys q a r->q+a.length<=r
 |[],q,h=>by have:q=r:=h;simp;omega
 |p::a,q,h=>by have:=iT.count h.2.2;simp only[iN];omega
def NN.fits {p:Pc}(h:NN ys q p)(a:q<ys.length):q+max 1 p.l<=ys.length:=by rcases h with⟨h,_⟩|⟨_,_,h,_⟩<;>omega
def nE (ys:aD):Nat->List Pc->Nat->Prop
 |q,[],r=>q=r
 |q,p::ps,r=>(p=X4 ys q/\(p.l≠0->mU p.l p.d=true))/\nE ys (q+max 1 p.l) ps r
def nE.snoc {ys:aD}{p:Pc}{r:Nat}:∀{a:List Pc} {q:Nat},nE ys q a r->p=X4 ys r/\(p.l≠0->mU p.l p.d=true)->nE ys q (a++[p]) (r+max 1 p.l)
 |[],q,h,hp=>by
  have:q=r:=h
  subst this
  exact⟨hp,rfl⟩
 |_::_,_,h,hp=>⟨h.1,nE.snoc h.2 hp⟩
def nE.le {ys:aD}{r:Nat}:∀{a:List Pc} {q:Nat},nE ys q a r->q<=r
 |[],q,h=>by have:q=r:=h;omega
 |p::a,q,h=>by have:=nE.le h.2;omega
def nE.one {ys:aD}{r:Nat}:∀{b a:List Pc} {q:Nat},nE ys q b r->nE ys q a r->b=a
 |[],[],_,_,_=>rfl
 |[],p::b,q,h,h'=>by
  have e:q=r:=h
  have:=nE.le h'.2
  omega
 |p::b,[],q,h,h'=>by
  have e:q=r:=h'
  have:=nE.le h.2
  omega
 |p::b,p'::a,q,h,h'=>by
  have e:p=p':=h.1.1.trans h'.1.1.symm
  subst e
  rw[nE.one h.2 h'.2]
def lM:List Pc->List aK
 |[]=>[]
 |p::ps=>p.cells.toList++lM ps
def QX (a:List Pc):(lM a).length=a.length*3:=by
 induction a with
 |nil=>rfl
 |cons p a ih=>rw[lM,aN,ih];simp[Pc.cells];omega
def Y2 (a:List Pc)(p:Pc):lM (a++[p])=lM a++p.cells.toList:=by
 induction a with
 |nil=>simp[lM]
 |cons x a ih=>rw[jZ,lM,ih,lM,dB]
def av3:(prog.info? 159).map (fun i=>(i.zero,i.size,i.bytes))=some (some (.agg #[.int .u8 0,V 0,V 0]),3,24):=by kernel_rfl
def af2:prog.underlying 109=some (.slice 159):=by kernel_rfl
def tV {w':aH}{S:Nat->Prop}{base:Nat}{e:TypeId}{size:Nat}{v:aK}{xs:List aK}(h:w.ownsRow base e size v n xs)(hs:Step S w w')(hn:∀k,base<=k->¬S k):w'.ownsRow base e size v n xs:=by
 obtain⟨b,d|⟨g,cap,a,f,c,hh,r⟩⟩:=h
 ·exact⟨b, .inl d⟩
 ·exact⟨b, .inr ⟨g,cap,a,f,c,hs.at_ hh (hn g c),r⟩⟩
structure as9 (w w':aH)(ys:aD)(v:aK)(ps:List Pc):Prop where
 pcs:iT ys 0 ps ys.length
 are:nE ys 0 ps ys.length
 row:w'.ownsRow w.heap.size 159 3 v ps.length (lM ps)
 st:O w w'
def af4 (a:Option Addr)(cap:Nat)(w:aH):Calls prog 62 #[.slice a 0 cap] w fun e w'=>e= .returned (.slice none 0 0)/\O w w':=by
 go_enter func62,ntmps62;go_wp2_with fail;apply(J2 a 0 cap w (by decide)).mono;rintro e w1 ⟨F,gl,ga,rfl,c⟩;have d:=hide c.st;clear c;go_wp2_with fail;go_loopw [3,5] (fun u3 u5 wr=>u3= .slice none 0 0/\u5=V 0/\O w wr) (fun _ _ _=>0);case atStart=>exact⟨rfl,rfl,d.o⟩
 case round=>
  obtain⟨rfl,rfl,b⟩:=hrel;go_wp2_with fail;go_ret;exact⟨rfl,b⟩
def Uh (j off cap:Nat)(ys:aD)(w:aH)(hl:nI w j off ys)(hj:j<w.heap.size)(hb:∀i:Nat,ys[i]?.getD 0<256)(hf:ys.length<=1048576):Calls prog 62 #[.slice (some (U j off)) ys.length cap] w fun e w'=>∃v r,e= .returned v/\as9 w w' ys v r:=by
 obtain⟨i0,hi,ak,al,Z⟩:=eD av3;go_enter func62,ntmps62;go_wp2_with fail;apply(J2 (some (U j off)) ys.length cap w hf).mono;rintro e w1 ⟨F,gl,ga,rfl,a⟩
 have c:M4 w1 F j off cap gl ga ys 0 (fun _=> -1) (fun _=>0):=
  ⟨a.blk,fun i hi=>a.st.cell (p:=⟨j,off+i,none⟩) (hl i hi) (fun y=>y),hb,hf,a.last,a.ahead,⟨a.apart.1,a.apart.2.1,a.apart.2.2,by have:=a.new;omega,by have:=a.new;omega,by have:=a.new;omega⟩,fun _ _=> .inl rfl,fun p hp _=>by omega,rfl,rfl⟩
 have ao:=a.new;have ac:=aO c.blk;have Q:=c.last.lt;have N:=c.ahead.lt;have HS:=hide a.st;have hB:=a.st.size;go_wp2_with fail;obtain⟨B,J⟩:=aP w1.heap.size;rw[<-J]at ac Q N hB;go_loopw [3,5] (fun u3 u5 wr=>∃(at_ n':Nat) (v:aK) (r:List Pc) (L A:Nat->Int),u5=V at_/\u3=v/\at_<=ys.length/\n'<=at_/\M4 wr F j off cap gl ga ys n' L A/\(iT ys 0 r at_/\nE ys 0 r at_)/\wr.ownsRow B 159 3 v r.length (lM r)/\B<=wr.heap.size/\O w wr) (fun _ u5 _=>ys.length-(intOf u5).toNat);case atStart=>exact⟨0,0,_,[],_,_,rfl,rfl,by omega,by omega,c,⟨rfl,rfl⟩,⟨rfl, .inl ⟨rfl,rfl⟩⟩,by omega,HS.o⟩
 case round=>
  obtain⟨q,n',v,r,L,A,rfl,rfl,hq,af,c,s,x,ap,X⟩:=hrel;by_cases C:q<ys.length
  ·have R:(q:Int)<(ys.length:Int):=(by omega);go_wp2_with fail;apply(ar4 F j off cap gl ga n' q ys L A wr c af C).mono;rintro e w2 ⟨p,rfl,ah⟩;obtain⟨f,⟨n2,L2,A2,ag,ae⟩,D⟩:=ah;have S:∀k,B<=k->¬FS F gl ga k:=fun k hk y=>by rcases y with y|y|y<;>omega
   have m:=tV x D S;have Y:O w w2:=X.trans' D (fun i hi y=>by rcases y with y|y|y<;>omega);have av:=D.size;have au:p.l<=258:=by rcases f.ok with y|y<;>omega
   have M:=f.ok.fits C;have an:=s.1.count;unfold Pc.cells;obtain⟨P,hP⟩:=aP w2.heap.size;have ar:(if(p.l:Int)<1 then 1 else(p.l:Int))=((max 1 p.l:Nat):Int):=(by split<;>omega);go_wp2_with (at_builtin;refine fQ _ rfl _ _ 109 rfl B 159 i0 _ 3 24 af2 hi ak al Z rfl (by decide) _ r.length (lM r) rfl (by exact(m.alloc _).alloc _) ⟨w2.heap.size+1,0,none⟩ 1 1 p.cells.toList rfl rfl ?c1 ?c2 (by decide) ?c3 ?c4 ?c5 ?_);case c1=>
    intro i u hu;have I:=aR (w2.alloc (.cells #[.int .u8 (p.b:Nat),V p.l,V p.d] 159)) (.cells #[.int .u8 (p.b:Nat),V p.l,V p.d] 159);rw[oJ]at I;have h8:=aC I i u (by rw[<-hu];simp[Pc.cells]);rw[show(Addr.add ⟨w2.heap.size+1,0,none⟩ i)=⟨w2.heap.size+1,i,none⟩ by simp[Addr.add];omega];exact h8
   case c2=>
    intro u hu;simp[Pc.cells]at hu;rcases hu with rfl|rfl|rfl<;>rfl
   case c3=>unfold maxLen;omega
   case c4=>omega
   case c5=>simp;omega
   intro g am w5 T z hg;have W:∀k,u3.ownBlock=some k->B<=k/\k<w2.heap.size:=fun k hk=>m.lt k hk;obtain⟨w4,H⟩:=aP ((w2.alloc (.cells #[.int .u8 (p.b:Nat),V p.l,V p.d] 159)).alloc (.cells #[.int .u8 (p.b:Nat),V p.l,V p.d] 159));rw[<-H]at z;have aj:O w2 w4:=(by rw[H];exact((aU _ _).alloc _).alloc _);have K:w4.heap[w2.heap.size]? =some (.cells #[.int .u8 (p.b:Nat),V p.l,V p.d] 159 (0,0)):=by
    rw[H];exact(dG _ _ _ (by simp)).trans (aR _ _)
   have ad:=(z.block w2.heap.size (aO K) (fun e=>by have:=(W _ e.symm).2;omega)).trans K;have c1:w5.cell? (U w2.heap.size 1)=some (V p.l):=aC ad 1 _ rfl;have G:Step (fun k=>B<=k) w2 w5:=(aj.mono (fun _ y=>y.elim)).grown z (fun k e=> .inl (W k e).1);have aa:=hide (ae.step G ⟨by omega,by omega,by omega,by omega⟩);have ab:=hide (show O w w5 from Y.trans' G (fun i hi y=>by omega));have aw:=G.size;have aq:IntKind.i64.wrap ((q:Int)+((max 1 p.l:Nat):Int))=(q:Int)+((max 1 p.l:Nat):Int):=(by rw[dK];omega);go_wp2_with fail;have t:(q:Int)+(if(1:Int)<(p.l:Int)then(p.l:Int)else 1)=((q+max 1 p.l:Nat):Int):=(by split<;>omega);go_roundw;case rel=>
    rw[t];refine⟨q+max 1 p.l,n2,_,r++[p],L2,A2,rfl,rfl,M,ag,aa.o,⟨s.1.snoc C f.ok,s.2.snoc ⟨f.is_,f.pays⟩⟩,?_,by omega,ab.o⟩;rw[Y2,aN,J];exact T
   case measure=>
    rw[t];simp only[intOf];omega
  ·have R:¬(q:Int)<(ys.length:Int):=(by omega);go_wp2_with fail;go_ret;have ai:q=ys.length:=(by omega);have I:=s;rw[ai]at I;exact⟨_,rfl,r,I.1,I.2,bH x hB,X⟩
def find_ok (u:aK)(ys:aD)(w:aH)(h:BytesIn w u ys):Calls prog 62 #[u] w fun e w'=>∃v d,e= .returned v/\as9 w w' ys v d:=by
 rcases h.bytes with⟨a,c,rfl,rfl⟩|⟨j,off,cap,rfl,b⟩
 ·apply(af4 a c w).mono;rintro e w' ⟨rfl,hs⟩;exact⟨_,[],rfl,rfl,rfl,⟨rfl, .inl ⟨rfl,rfl⟩⟩,hs⟩
 ·refine Uh j off cap ys w b (h.old j off _ cap rfl) (fun i=> ?_) h.len;rcases mK i ys.length with y|y
  ·rw[bV y];exact h.byte _ (vE y)
  ·rw[fZ y];exact(by decide)
end Go.Proofs.YtbpahojchgpdnaaGreatDoor
