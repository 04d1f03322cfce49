import Derived.Test.YtbpahojchgpdnaaGreatDoorMarksA
import Derived.Test.YtbpahojchgpdnaaGreatDoorFixed
set_option maxRecDepth 20000
set_option maxHeartbeats 4000000
set_option linter.all false
namespace Go.dM
variable {i m n s t:Nat} {w:aH} {L:aD}
end Go.dM
namespace Go.Proofs.YtbpahojchgpdnaaGreatDoor
open Go.RowKit Go.Shelf Go.Lib Go.Sort Go.dM Go.Proofs.Tryz
variable {i m n s t:Nat} {w:aH} {L:aD}
def Qc (f1 f2:Nat->Nat)(p:Pc):Prop:=(p.l=0/\1<=f1 p.b)\/(p.l≠0/\∃s x m s2 x2 m2,LenM p.l s x m/\1<=f1 s/\tL p.d s2 x2 m2/\1<=f2 s2)
def Qc.mono {f1 f2 f g:Nat->Nat}{p:Pc}(h:Qc f1 f2 p)(j:∀i,f1 i<=f i)(k:∀i,f2 i<=g i):Qc f g p:=by
 rcases h with⟨a,b⟩|⟨a,s,x,m,l,o,m2,b,c,d,e⟩
 ·exact .inl ⟨a,bB b (j _)⟩
 ·exact .inr ⟨a,s,x,m,l,o,m2,b,bB c (j _),d,bB e (k _)⟩
def bump (f:Nat->Nat)(s i:Nat):Nat:=if i=s then f i+1 else f i
inductive Cnt:List Pc->(Nat->Nat)->(Nat->Nat)->Prop
 |nil:Cnt [] (fun i=>if i=256 then 1 else 0) (fun _=>0)
 |lit (ps:List Pc) (p:Pc) (f1 f2:Nat->Nat) (h:Cnt ps f1 f2) (hl:p.l=0):Cnt (ps++[p]) (bump f1 p.b) f2
 |cpy (ps:List Pc) (p:Pc) (f1 f2:Nat->Nat) (s x m s2 x2 m2:Nat) (h:Cnt ps f1 f2) (hl:p.l≠0) (hM:LenM p.l s x m) (hD:tL p.d s2 x2 m2):Cnt (ps++[p]) (bump f1 s) (bump f2 s2)
structure wP (ps:List Pc)(t:Nat)(f1 f2:Nat->Nat):Prop where
 end_:1<=f1 256
 cnt:∀p∈ps.take t,Qc f1 f2 p
 le1:∀i,f1 i<=t+1
 le2:∀i,f2 i<=t
 is_:Cnt (ps.take t) f1 f2
def JM (f:Nat->Nat)(s i:Nat):f i<=bump f s i:=by unfold bump;split<;>omega
def YQ {f:Nat->Nat}(h:f i<=t):bump f s i<=t+1:=by unfold bump;split<;>omega
def Y3 (f:Nat->Nat)(s:Nat):1<=bump f s s:=by unfold bump;rw[aA rfl];omega
def wP.lit {c:List Pc}{f1 f2:Nat->Nat}{p:Pc}(h:wP c t f1 f2)(hp:c[t]? =some p)(d:p.l=0):wP c (t+1) (bump f1 p.b) f2:=by
 refine⟨bB h.end_ (JM _ _ _),fun q a=> ?_,fun i=>YQ (h.le1 i),fun i=>Nat.le_succ_of_le (h.le2 i),by rw[jE,hp];exact .lit _ p _ _ h.is_ d⟩;rw[jE,hp,iF]at a;rcases a with a|a
 ·exact(h.cnt q a).mono (JM _ _) (fun _=>aS _)
 ·simp only[Option.toList_some,qB]at a;subst a;exact .inl ⟨d,Y3 _ _⟩
def wP.cpy {c:List Pc}{f1 f2:Nat->Nat}{p:Pc}(h:wP c t f1 f2)(hp:c[t]? =some p)(j:p.l≠0){x b e m2:Nat}(g:LenM p.l s x m)(f:tL p.d b e m2):wP c (t+1) (bump f1 s) (bump f2 b):=by
 refine⟨bB h.end_ (JM _ _ _),fun q a=> ?_,fun i=>YQ (h.le1 i),fun i=>YQ (h.le2 i),by rw[jE,hp];exact .cpy _ p _ _ s x m b e m2 h.is_ j g f⟩;rw[jE,hp,iF]at a;rcases a with a|a
 ·exact(h.cnt q a).mono (JM _ _) (JM _ _)
 ·simp only[Option.toList_some,qB]at a;subst a;exact .inr ⟨j,s,x,m,b,e,m2,g,Y3 _ _,f,Y3 _ _⟩
def fB.bump {R:Nat}{f:Nat->Nat}(h:fB w R n f):fB (w.setCell (U R s) (V ((f s:Int)+1))) R n (bump f s):=by
 have e:(f s:Int)+1=((f s+1:Nat):Int):=by omega
 rw[e];refine(bA.set h s _).congr (fun i hi=> ?_);unfold Go.Proofs.YtbpahojchgpdnaaGreatDoor.bump;by_cases a:i=s
 ·subst a;rw[aA rfl,aA rfl]
 ·rw[aB a,aB a]
def fK (f:Nat->Nat)(n:Nat):aD:=(List.range n).map f
def bJ (f:Nat->Nat)(n:Nat):(fK f n).length=n:=by simp[fK]
def sO (f:Nat->Nat)(n i:Nat)(h:i<n):often (fK f n) i=f i:=by unfold often fK;rw[kE,zI h];rfl
def CY {f:Nat->Nat}{c:Nat}(h:∀i,f i<=c)(i:Nat):often (fK f n) i<=c:=by
 by_cases hi:i<n
 ·rw[sO f n i hi];exact h i
 ·unfold often;rw[fZ (by rw[bJ];omega)];simp
def fB.nums {R:Nat}{f:Nat->Nat}(h:fB w R n f):gG w R 0 (fK f n):=fun i hi=>by
 rw[bJ]at hi
 rw[dS,sO f n i hi]
 exact h.cell i hi
def Ii (j off cap:Nat)(Q:List Pc)(w:aH)(hW:vJ w j off Q)(jl:j<w.heap.size)(bk:Q.length<=100000)(aj:∀p∈Q,(p.l=0/\p.b<256)\/(3<=p.l/\p.l<=258/\1<=p.d/\p.d<=32768)):Calls prog 164 #[.slice (some ⟨j,off,none⟩) Q.length cap] w fun e w'=>∃g1 R f1 f2,e= .returned (.tuple #[.slice (some ⟨g1,0,none⟩) 286 286, .slice (some ⟨R,0,none⟩) 30 30])/\wP Q Q.length f1 f2/\w.heap.size<=g1/\w.heap.size<=R/\fB w' g1 286 (often (bI (fK f1 286) 15))/\fB w' R 30 (often (bI (fK f2 30) 15))/\O w w':=by
 obtain⟨i0,hi,ax,ay,az⟩:=eD info3;obtain⟨n,hn⟩:=aP Q.length;rw[<-hn]at bk|-
 have HN:=hide hn;clear hn;go_enter func164,ntmps164;go_wp2_with (first
  |(at_make;refine sD _ rfl _ _ 57 rfl w.heap.size 3 i0 (.int .i64 0) 1 underlying57 hi ax ay .i64 .i64 _ _ 286 rfl rfl rfl rfl (by rw[az];omega) (by unfold maxLen;omega) (aS _) ?_;intro w1 M aa;have ac:=(aU (fun _=>False) w).grown aa (fun k e=>by cases e);have H:=vY M;have f:=hide H;have D:=hide ac;have ba:=H.lt;have cw:=H.cell 256 (by decide);have fw:=H.free 256;clear M aa H ac)
  |(at_make;refine sD _ rfl _ _ 57 rfl w1.heap.size 3 i0 (.int .i64 0) 1 underlying57 hi ax ay .i64 .i64 _ _ 30 rfl rfl rfl rfl (by rw[az];omega) (by unfold maxLen;omega) (aS _) ?_;intro w2 N ab;have B:=(aU (fun _=>False) w1).grown ab (fun k e=>by cases e);have ah:=vY N;have q:=hide ah;have F:=hide B;have bc:=B.cell cw (fun y=>y);have be:=(f.o.step B (fun y=>y)).free 256;clear N ab ah B))
 obtain⟨a,S⟩:=aP w.heap.size;obtain⟨g,an⟩:=aP w1.heap.size;rw[<-S]at f ba|-
 rw[<-an]at q ba|-
 have bl:wP Q 0 (fun i=>if i=256 then 1 else 0) (fun _=>0):=⟨by simp,fun p hp=>by simp at hp,fun i=>by split<;>omega,fun i=>by omega, .nil⟩
 have bf:fB (w2.setCell ⟨a,256,none⟩ (.int .i64 1)) a 286 (fun i=>if i=256 then 1 else 0):=by
  refine((f.o.step F.o (fun y=>y)).set 256 (.int .i64 1)).congr (fun i hi=> ?_);by_cases e:i=256
  ·simp[e]
  ·simp[e]
 have bg:fB (w2.setCell ⟨a,256,none⟩ (.int .i64 1)) g 30 (fun _=>0):=q.o.other (by show g≠a;omega) _;have av:O w (w2.setCell ⟨a,256,none⟩ (.int .i64 1)):=(D.o.trans F.o).aZ (by show w.heap.size<=a;omega) _;have bt:¬j=a:=by omega
 have bu:¬j=g:=by have:=D.o.size;omega
 have al:=hide S;have bo:¬a=g:=by omega
 have bp:¬g=a:=by omega
 have aw:w.heap.size<=g:=by omega
 clear S an f q D F cw fw bc be;go_loopg [14] n (fun kx u14 wr=>∃(t:Nat) (f1 f2:Nat->Nat),u14= .int .i64 (t:Nat)/\t<=n/\kx=n-t/\Hid (wP Q t f1 f2)/\Hid (fB wr a 286 f1)/\Hid (fB wr g 30 f2)/\Hid (O w wr));case atStart=>exact⟨0,_,_,rfl,by omega,rfl,bl,bf,bg,av⟩
 case round=>
  obtain⟨t,f1,f2,rfl,cp,cm,A,f,q,z⟩:=hrel;by_cases co:t<n
  ·have au:(t:Int)<(n:Int):=(by omega);obtain⟨p,hp⟩:∃p,Q[t]? =some p:=⟨_,bV (by have:=HN.o;omega)⟩
   obtain⟨a0,a1,a2⟩:=hW t p hp;have a0:=z.o.cell a0 (fun y=>y);have a1:=z.o.cell a1 (fun y=>y);have a2:=z.o.cell a2 (fun y=>y);have et:((t:Int)).toNat=t:=(by omega);have pt:(0:Int)<=(t:Int):=(by omega);have cq:=f.o.lt;have cr:=q.o.lt;have bq:¬a=wr.heap.size:=(by omega);have br:¬g=wr.heap.size:=(by omega);have cl:j<wr.heap.size:=(by have:=z.o.size;omega);have bv:¬j=wr.heap.size:=(by omega);obtain⟨d,hd⟩:=aP p.d;obtain⟨X,C⟩:=aP p.l;obtain⟨b,hb⟩:=aP p.b;rw[<-hb]at a0;rw[<-C]at a1;rw[<-hd]at a2;have aj:=aj p (nZ hp);rw[<-hb,<-C,<-hd]at aj;by_cases bj:X=0;focus
    subst bj;have bh:b<256:=(by omega);have cR:=f.o.cell b (by omega);have fR:=f.o.free b;have hf:=A.o.le1 b;have K:=A.o.lit hp C.symm;have I:fB ((wr.setCell ⟨a,b,none⟩ (.int .i64 ((f1 b:Int)+1))).alloc (.cells #[.int .u8 (b:Nat), .int .i64 0, .int .i64 (d:Nat)] 159)) a 286 (bump f1 b):=bA.alloc (fB.bump f.o) _;have J:fB ((wr.setCell ⟨a,b,none⟩ (.int .i64 ((f1 b:Int)+1))).alloc (.cells #[.int .u8 (b:Nat), .int .i64 0, .int .i64 (d:Nat)] 159)) g 30 f2:=bA.alloc (bA.other q.o (by show g≠a;omega) _) _;have ai:O w ((wr.setCell ⟨a,b,none⟩ (.int .i64 ((f1 b:Int)+1))).alloc (.cells #[.int .u8 (b:Nat), .int .i64 0, .int .i64 (d:Nat)] 159)):=(z.o.aZ (by show w.heap.size<=a;have:=al.o;omega) _).alloc _;rw[<-hb]at K;obtain⟨c,hc⟩:=aP (f1 b);rw[<-hc]at cR hf I J ai;have eb:((b:Int)).toNat=b:=(by omega);have pb:(0:Int)<=(b:Int):=(by omega);have qb:(b:Int)<286:=(by omega);have N0:=hide K;have N1:=hide I;have N2:=hide J;have N3:=hide ai;clear K I J ai hc hp hd C hb A f q z
   rotate_left;focus
    have bw:¬(X:Int)=0:=(by omega);have G:3<=X/\X<=258/\1<=d/\d<=32768:=(by omega);have kl:=fun W=>F4 X W G.1 G.2.1;have kd:=fun W=>A8 d W G.2.2.1 G.2.2.2;have KL:=hide kl;have KD:=hide kd;have bb:=hide (aQ hp (aQ hd C));clear kl kd hp hd C hb G;have ch:∀(u v x:aK) (w:aH),(Instr.field 175 (.agg #[u,v,x]) 0).run prog w= .ok u w:=fun _ _ _ _=>by kernel_rfl
    have ag:∀(s x m:Nat) (w3:aH),LenM X s x m->O (wr.alloc (.cells #[.int .u8 (b:Nat), .int .i64 (X:Nat), .int .i64 (d:Nat)] 159)) w3->∃c:Nat,c<=200000/\s<286/\w3.cell? ⟨a,s,none⟩=some (.int .i64 (c:Nat))/\w3.frozen? ⟨a,s,none⟩=false/\w3.cell? ⟨wr.heap.size,2,none⟩=some (.int .i64 (d:Nat))/\
      (∀(r x2 m2:Nat) (w4:aH),tL d r x2 m2->O (w3.setCell ⟨a,s,none⟩ (.int .i64 ((c:Int)+1))) w4->∃c2:Nat,c2<=200000/\r<30/\w4.cell? ⟨g,r,none⟩=some (.int .i64 (c2:Nat))/\w4.frozen? ⟨g,r,none⟩=false/\
       Hid (wP Q (t+1) (bump f1 s) (bump f2 r))/\Hid (fB (w4.setCell ⟨g,r,none⟩ (.int .i64 ((c2:Int)+1))) a 286 (bump f1 s))/\Hid (fB (w4.setCell ⟨g,r,none⟩ (.int .i64 ((c2:Int)+1))) g 30 (bump f2 r))/\Hid (O w (w4.setCell ⟨g,r,none⟩ (.int .i64 ((c2:Int)+1))))):=fun s x m w3 hM T=>by
     have cg:=hM.bd;have h1:fB w3 a 286 f1:=bA.step (bA.alloc f.o _) T (fun y=>y);have h2:fB w3 g 30 f2:=bA.step (bA.alloc q.o _) T (fun y=>y);have h3:=(z.o.alloc (.cells #[.int .u8 (b:Nat), .int .i64 (X:Nat), .int .i64 (d:Nat)] 159)).trans T;have h4:w3.heap[wr.heap.size]? =some (.cells #[.int .u8 (b:Nat), .int .i64 (X:Nat), .int .i64 (d:Nat)] 159 (0,0)):=T.at_ (aR _ _) (fun y=>y);have cn:=A.o.le1 s;refine⟨f1 s,by omega,by omega,bA.cell h1 s (by omega),bA.free h1 s,aC h4 2 _ rfl,fun r x2 m2 w4 hD ak=> ?_⟩;have bs:=hD.bd;have g1:fB w4 a 286 (bump f1 s):=bA.step (fB.bump h1) ak (fun y=>y);have R:fB w4 g 30 f2:=bA.step (bA.other h2 (by show g≠a;omega) _) ak (fun y=>y);have S:=al.o;have g3:=(h3.aZ (p:=⟨a,s,none⟩) (by show w.heap.size<=a;omega) (.int .i64 ((f1 s:Int)+1))).trans ak;have bx:=A.o.le2 r;obtain⟨q1,q2,q3⟩:=bb.o;refine⟨f2 r,by omega,by omega,bA.cell R r (by omega),bA.free R r,?_,bA.other g1 (by show a≠g;omega) _,fB.bump R,g3.aZ (p:=⟨g,r,none⟩) aw _⟩;rw[q3]at hM;rw[q2]at hD;exact A.o.cpy q1 (by omega) hM hD
    have Z:=hide ag;clear ag f q;go_wp2_with fail;apply(KL.o _).mono;rintro e w3 ⟨s,x,m,rfl,hM,ad⟩;obtain⟨c,hc,bm,c1,ce,cd,am⟩:=Z.o s x m w3 hM ad;have es:((s:Int)).toNat=s:=(by omega);have cs:(0:Int)<=(s:Int):=(by omega);have ct:(s:Int)<286:=(by omega);have Y:=hide am;clear am hM ad Z;go_wp2_with fail;apply(KD.o _).mono;rintro e w4 ⟨r,x2,m2,rfl,hD,ae⟩;obtain⟨c2,ah,bz,c3,cf,N0,N1,N2,N3⟩:=Y.o r x2 m2 w4 hD ae;have cc:((r:Int)).toNat=r:=(by omega);have ca:(0:Int)<=(r:Int):=(by omega);have cb:(r:Int)<30:=(by omega);clear hD ae Y
   all_goals
    go_wp2_with fail;go_roundg (n-(t+1));case measure=>omega
    case rel=>exact⟨t+1,_,_,by go_num,by omega,rfl,N0,N1,N2,N3⟩
  ·have au:¬(t:Int)<(n:Int):=(by omega);have bn:t=n:=(by omega);subst bn;have aq:=vH a 0 286 15 (fK f1 286) wr (fB.nums f.o) (by rw[bJ];omega) (by rw[bJ];omega) (fun i=>by have:=CY (n:=286) A.o.le1 i;omega) (by omega) (by omega) (by rw[bJ];decide);rw[bJ]at aq;have ar:=fun(W:aH) (hs:O wr W)=>vH g 0 30 15 (fK f2 30) W ((fB.nums q.o).step hs (fun y=>y)) (by rw[bJ];omega) (by rw[bJ];omega) (fun i=>by have:=CY (n:=30) A.o.le2 i;omega) (by omega) (by omega) (by rw[bJ];decide);rw[bJ]at ar;have hz:=z.o.size;go_wp2_with (first
    |(go_at_call_of 183 a;apply aq.mono;rintro e w5 ⟨g1,rfl,cj,ao,P⟩)
    |(go_at_call_of 183 g;apply(ar _ P).mono;rintro e w6 ⟨R,rfl,ck,ap,af⟩))
   go_ret2;exact⟨g1,R,f1,f2,rfl,A.o,by omega,by have:=P.size;omega,bA.step ao af (fun y=>y),ap,(z.o.trans P).trans af⟩
end Go.Proofs.YtbpahojchgpdnaaGreatDoor
namespace Go.Proofs.YtbpahojchgpdnaaGreatDoor
open Go.RowKit Go.dM Go.Proofs.Tryz
variable {i m n s t:Nat} {w:aH} {L:aD}
def Ve {l:List Pa}(h:∀p∈l,i∉p.s):eY l i=0:=by
 induction l with
 |nil=>rfl
 |cons p l ih=>rw[eY,ih (fun q a=>h q (by simp[a])),List.count_eq_zero.2 (h p (by simp))]
def Bg {f:Nat->Nat}:∀{l:aD} {i:Nat},i∈l->f i<=gT f l
 |[],_,h=>by simp at h
 |x::l,i,h=>by
  rw[gT]
  rcases fE.1 h with rfl|h
  ·omega
  ·have:=Bg (f:=f) h;omega
def ac1 {f:Nat->Nat}(a:∀i,1<=f i):∀{l:aD} {i:Nat},i∈l->2<=l.length->f i+1<=gT f l
 |[],_,h,_=>by simp at h
 |[x],_,_,h2=>by simp at h2
 |x::y::l,i,h,_=>by
  rw[gT]
  rcases fE.1 h with rfl|h
  ·rw[gT];have:=a y;omega
  ·have:=Bg (f:=f) h;have:=a x;omega
def MG {k:Nat}(hi:i∉comes L L.length):often (bI L k) i=0:=by
 by_cases h:i<L.length
 ·rw[lG L k i h];by_cases b:(comes L L.length).length<2
  ·rw[aA b,aB hi]
  ·rw[aB b];refine Ve (fun p hp a=>hi ?_);exact LA (q:=fun i=>i∈comes L L.length) (fun p hp j c=>by
    simp only[sU]at hp;obtain⟨x,d,rfl⟩:=hp;simp only[mk1,qB]at c;subst c;exact d) k p (zN hp) i a
 ·unfold often;rw[fZ (by rw[cK];omega)];rfl
def wZ {k:Nat}(g:1<=k)(hs:L.length<=2^k)(hi:i∈comes L L.length):1<=often (bI L k) i:=by
 have c:=((oQ L _ i).1 hi).1;rw[lG L k i c];by_cases d:(comes L L.length).length<2
 ·rw[aA d,aA hi];omega
 ·rw[aB d];have j:=qZ L L.length;have b:=(yA (often L) (comes L L.length) (tO _ _) (by omega) k (by omega)).2.2;have e:=ac1 (f:=fun i=>2^(k-eY ((qP ((comes L L.length).map (mk1 (often L))) k).take (2*(comes L L.length).length-2)) i)) (fun i=>Nat.one_le_two_pow) hi (by omega);rw[b]at e;rcases DZ (eY ((qP ((comes L L.length).map (mk1 (often L))) k).take (2*(comes L L.length).length-2)) i)with a|a
  ·simp only[a,Nat.sub_zero]at e;omega
  ·exact a
def WU (L:aD)(k:Nat)(hk:1<=k)(hs:L.length<=2^k):∀n,n<=L.length->iD (bI L k) n=gT (fun i=>32768/2^often (bI L k) i) (comes L n)/\eG (bI L k) n=(comes L n).length
 |0,_=>⟨rfl,rfl⟩
 |n+1,hn=>by
  obtain⟨c,d⟩:=WU L k hk hs n (by omega)
  have e:(bI L k)[n]?.getD 0=often (bI L k) n:=rfl
  rw[iD,eG,e,QU,c,d]
  by_cases b:0<often L n
  ·have hp:=wZ (i:=n) hk hs ((oQ L _ n).2 ⟨by omega,b⟩)
   rw[aA b,aA (by omega),aA (by omega)]
   have a:∀(f:Nat->Nat) (l:aD) (x:Nat),gT f (l++[x])=gT f l+f x:=fun f l x=>by
    induction l with
    |nil=>simp[gT]
    |cons y l ih=>rw[jZ,gT,gT,ih];omega
   exact⟨by rw[a],by simp⟩
  ·have g:often (bI L k) n=0:=MG (fun h=>b ((oQ L _ n).1 h).2)
   rw[aB b,g,aB (by omega),aB (by omega)]
   exact⟨rfl,rfl⟩
def wF {f g:Nat->Nat}:∀{l:aD},(∀i∈l,f i=g i)->gT f l=gT g l
 |[],_=>rfl
 |x::l,h=>by rw[gT,gT,h x (by simp),wF (fun i hi=>h i (by simp[hi]))]
def Ce {f:Nat->Nat}{c:Nat}:∀l:aD,gT (fun i=>c*f i) l=c*gT f l
 |[]=>rfl
 |x::l=>by rw[gT,gT,Ce l,Nat.mul_add]
def zS (L:aD)(k:Nat)(hk:1<=k)(j:k<=15)(hs:L.length<=2^k)(o:1<=(comes L L.length).length):fF (bI L k)=true:=by
 obtain⟨l,g⟩:=WU L k hk hs L.length (aS _);have q:=qZ L L.length;unfold fF;rw[cK,l,g];by_cases d:(comes L L.length).length<2
 ·have f:(comes L L.length).length=1:=by omega
  match hx:comes L L.length,f with
  |[x],_=>
   have a:x∈comes L L.length:=(by rw[hx];simp);have e:often (bI L k) x=1:=(by rw[lG L k x ((oQ L _ x).1 a).1,aA d,aA a]);simp[gT,e]
 ·have b:=(yA (often L) (comes L L.length) (tO _ _) (by omega) k (by omega)).2.2;have c:=(yA (often L) (comes L L.length) (tO _ _) (by omega) k (by omega)).2.1;have e:gT (fun i=>32768/2^often (bI L k) i) (comes L L.length)=2^(15-k)*gT (fun i=>2^(k-eY ((qP ((comes L L.length).map (mk1 (often L))) k).take (2*(comes L L.length).length-2)) i)) (comes L L.length):=by
   rw[<-Ce];refine wF (fun i hi=> ?_);rw[lG L k i ((oQ L _ i).1 hi).1,aB d];have p:=c i;rw[show(32768:Nat)=2^15 from rfl,Nat.pow_div (by omega) (by omega),<-oZ];congr 1;omega
  rw[e,b,<-oZ,show 15-k+k=15 by omega];simp
open Go.Shelf Go.Lib Go.Sort
def oN (F:aD)(c:Nat):List Bool:=(List.range c).flatMap fun i=>numBits (often F (bP[i]?.getD 0)) 3
def kN (F:aD)(l:List Mk):List Bool:=l.flatMap fun k=>dN F k.s++numBits k.x k.m
def jL (a b c:Nat)(F:aD)(l:List Mk):List Bool:=numBits (a-257) 5++numBits (b-1) 5++numBits (c-4) 4++oN F c++kN F l
structure M8 (L1 L2:aD)(a b c:Nat)(F:aD)(l:List Mk):Prop where
 a1:257<=a
 a2:a<=286
 az:∀i,a<=i->often L1 i=0
 b1:1<=b
 b2:b<=30
 bz:∀i,b<=i->often L2 i=0
 tells:gH (L1.take a++L2.take b) 0 l (a+b)
 fs:F=bI (FK l) 7
 c1:4<=c
 c2:c<=19
 cz:∀i,c<=i->i<19->often F (bP[i]?.getD 0)=0
 last:(257<a->often L1 (a-1)≠0)/\(1<b->often L2 (b-1)≠0)/\(4<c->often F (bP[c-1]?.getD 0)≠0)
def gG.take {g off:Nat}(h:gG w g off L)(a:Nat):gG w g off (L.take a):=fun i hi=>by
 rw[dF]at hi
 rw[h i (by omega)]
 unfold often
 rw[jQ (by omega)]
def EU (L:aD)(a i c:Nat)(h:∀i,often L i<=c):often (L.take a) i<=c:=by
 have:=h i;unfold often at*;by_cases hi:i<a
 ·rw[jQ hi];exact this
 ·rw[fZ (by rw[dF];omega)];simp
def NT (L M:aD)(i c:Nat)(h:∀i,often L i<=c)(a:∀i,often M i<=c):often (L++M) i<=c:=by
 unfold often at*;by_cases hi:i<L.length
 ·rw[jA hi];exact h i
 ·rw[kZ (by omega)];exact a _
def yU (F:aD)(c:Nat):oN F (c+1)=oN F c++numBits (often F (bP[c]?.getD 0)) 3:=by simp[oN,FZ]
def kJ (F:aD)(c:Nat):(oN F c).length=3*c:=by
 induction c with
 |zero=>rfl
 |succ c ih=>rw[yU,aN,ih,aM];omega
def D9 {l:List Mk}{k:Mk}(hk:k∈l)(hs:k.s<19):fF (bI (FK l) 7)=true/\1<=often (bI (FK l) 7) k.s:=by
 have a:k.s∈comes (FK l) (FK l).length:=by
  rw[oQ,fI,TM l k.s hs];exact⟨hs,List.count_pos_iff.2 (O5 hk)⟩
 have b:(FK l).length<=2^7:=by rw[fI];decide
 exact⟨zS _ 7 (by omega) (by omega) b (List.length_pos_of_mem a),wZ (by omega) b a⟩
def Ea {F:aD}{l:List Mk}{k:Mk}(h:l[i]? =some k):kN F (l.take (i+1))=kN F (l.take i)++(dN F k.s++numBits k.x k.m):=by unfold kN;rw[jE,h,List.flatMap_append];simp
def FY {F:aD}(a:∀j:Nat,F[j]?.getD 0<=15):∀l:List Mk,(∀k∈l,k.m<=7)->(kN F l).length<=22*l.length
 |[],_=>by simp[kN]
 |k::l,h=>by
  have c:=FY a l (fun q b=>h q (by simp[b]))
  have d:=h k (by simp)
  have f:=a k.s
  have e:kN F (k::l)=dN F k.s++numBits k.x k.m++kN F l:=by simp[kN]
  rw[e,aN,aN,fP,aM,iN]
  omega
structure Plan (w w7:aH)(L1 L2:aD)(a b c gm cm gF gO:Nat)(F:aD)(l:List Mk):Prop where
 cod:M8 L1 L2 a b c F l
 mks:GU w7 gm l
 gml:w.heap.size<=gm/\gm<w7.heap.size
 fl:fB w7 gF 19 (often F)
 gFl:w.heap.size<=gF
 od:fB w7 gO 19 (fun i=>often F (bP[i]?.getD 0))
 gOl:w.heap.size<=gO
 st:O w w7
 len:l.length<=1000
def RY (k base g1 g2:Nat)(v:aK)(bs:List Bool)(L1 L2:aD)(w:aH)(h:Sk w k base v bs)(n1:gG w g1 0 L1)(n2:gG w g2 0 L2)(ag:L1.length=286)(ax:L2.length=30)(av:∀i,often L1 i<=15)(dq:∀i,often L2 i<=15)(hO:bL w)(hl:bs.length<60000000000000)(ek:base<=w.heap.size):Calls prog 165 #[E k, .slice (some (U g1 0)) 286 286, .slice (some (U g2 0)) 30 30] w fun e w'=>e= .returned (.tuple #[])/\∃v' a b c F l,Sk w' k base v' (bs++jL a b c F l)/\M8 L1 L2 a b c F l/\dH k w v w' v':=by
 have cf:=YP g1 0 286 257 L1 w n1 (by omega) (by omega) (by omega);rw[ag]at cf;have dh:=hide cf;have HH:=hide h;have dc:=hide n1;have HO:=hide hO;have r:=hide (aQ ag (aQ ax (aQ av dq)));clear cf h n1 hO ag ax av dq;go_enter func165,ntmps165;go_wp2_with fail;apply dh.o.mono;rintro e w1 ⟨a,rfl,a1,a2,az,am,bk⟩;have cg:=YP g2 0 30 1 L2 w1 (n2.step bk (fun y=>y)) (by have:=r.o.2.1;omega) (by have:=r.o.2.1;omega) (by have:=r.o.2.1;omega);rw[r.o.2.1]at cg;have dj:=hide cg;have cr:=hide az;clear cg az dh;go_wp2_with fail;apply dj.o.mono;rintro e w2 ⟨b,rfl,b1,b2,bz,bm,bl⟩;have cu:=hide bz;have cs:=hide bm;have G:=hide (bk.trans bl);clear bl bz bm dj;go_wp2_with fail;have ag:=r.o.1;have ax:=r.o.2.1;have l1:(L1.take a).length=a:=by rw[dF];omega
 have l2:(L2.take b).length=b:=by rw[dF];omega
 have ad:=Qq g1 286 g2 30 (L1.take a) (L2.take b) w2 57 ((dc.o.step G.o (fun y=>y)).take a) ((n2.step G.o (fun y=>y)).take b) (by omega) (by omega);rw[l1,l2]at ad;apply ad.mono;rintro e w3 ⟨c3,rfl,ff,fc,ca,bn⟩;obtain⟨row,B⟩:=aP (L1.take a++L2.take b);rw[<-B]at ca;have cb:row.length=a+b:=by rw[B,aN,l1,l2]
 have bg:∀i,often row i<=15:=fun i=>by
  rw[B];exact NT _ _ _ _ (fun i=>EU _ _ _ _ r.o.2.2.1) (fun i=>EU _ _ _ _ r.o.2.2.2)
 have cj:=G.o.trans bn;have cc:=Br (w2.heap.size+1) 0 c3 row w3 ca (by omega) (by omega) bg (HO.o.step cj (fun _ _ y=>y));rw[cb]at cc;have df:=hide cc;have ba:=hide (aQ B cb);clear ad ca bn B bg cc ag ax l1 l2 cb G;go_wp2_with fail;apply df.o.mono;rintro e w4 ⟨v4,l,rfl,ai,X⟩;have en:=X.count;have bo:=X.sym;have dx:1<=l.length:=by
  rcases DZ l.length with h0|h0
  ·have P:=kP h0;rw[P]at X;have:=X.nil_eq;omega
  ·exact h0
 obtain⟨gm,cm,er⟩:∃gm cm,v4= .slice (some (U gm 0)) l.length cm:=by
  obtain⟨_,⟨_,fm⟩|⟨g,cap,_,hv,_⟩⟩:=ai.row
  ·omega
  ·exact⟨g,cap,hv⟩
 subst er;have ah:=GU.D6 ai.row;have bw:=ai.row.lt gm rfl;have dt:=NZ gm cm l w4 ah bw.2 (by omega) (fun k hk=>(bo k hk).1);have db:=hide (aQ ah bw);have dl:=hide X;have au:=hide (cj.trans ai.st);have fr:=cj.size;obtain⟨N,hN⟩:=aP l.length;rw[<-hN]at dt en dx|-
 have ar:=hide hN;clear ah X ai bo hN df;go_wp2_with fail;apply dt.mono;rintro e w5 ⟨gF,rfl,fg,z,aj⟩;obtain⟨F,hF⟩:=aP (bI (FK l) 7);rw[<-hF]at z;have R:F.length=19:=by rw[hF,cK,fI]
 have ej:gG w5 gF 0 F:=fun i hi=>by
  rw[dS];exact bA.cell z i (by omega)
 have ep:=Ni gF 0 19 F w5 ej R (HO.o.step (au.o.trans aj) (fun _ _ y=>y)) z.lt;have de:=hide ep;have cv:=hide z;have cy:=hide (aQ hF R);have ft:=au.o.size;go_wp2_with fail;apply de.o.mono;rintro e w6 ⟨gO,rfl,fh,bv,ak⟩;have ch:=YP gO 0 19 4 (fK (fun i=>often F (bP[i]?.getD 0)) 19) w6 (fB.nums bv) (by rw[bJ];omega) (by rw[bJ];omega) (by rw[bJ];omega);rw[bJ]at ch;have dk:=hide ch;have cw:=hide bv;have dm:=hide (aj.trans ak);have dg:=hide ak;have fu:=aj.size;clear ch bv ak de;go_wp2_with fail;apply dk.o.mono;rintro e w7 ⟨c,rfl,c1,c2,cz,dp,J⟩;have d:Plan w w7 L1 L2 a b c gm cm gF gO F l:=by
  obtain⟨ah,bw⟩:=db.o;obtain⟨hF,R⟩:=cy.o;have bt:=dm.o.trans J;refine⟨⟨a1,a2,cr.o,b1,b2,cu.o,?_,hF,c1,c2,fun i hi em=> ?_,am,cs.o,fun P=>by have h8:=dp P;rw[sO _ _ _ (by omega)]at h8;exact h8⟩,ah.step bt (fun y=>y),⟨by omega,by have:=bt.size;omega⟩,?_,by omega,bA.step cw.o J (fun y=>y),by omega,au.o.trans bt,by have:=ar.o;omega⟩
  ·obtain⟨eq,fn⟩:=ba.o;have:=dl.o;rw[eq]at this;exact this
  ·have P:=cz i hi;rw[sO _ _ _ em]at P;exact P
  ·exact bA.step (bA.step cv.o dg.o (fun y=>y)) J (fun y=>y)
 clear cz dp J dg dk cw dm cv cy dl db au HO ba dc r cr cu cs;have bh:=HH.o.step0 d.st;have ed:dH k w v w7 v:=(dH.refl k w v).step0 d.st;have fw:=d.st.size;have ea:(a:Int)-257=((a-257:Nat):Int):=by omega
 have eb:(b:Int)-1=((b-1:Nat):Int):=by omega
 have ec:(c:Int)-4=((c-4:Nat):Int):=by omega
 have k1:=IG k base (a-257) 5 v bs w7 bh (by omega) (by omega) (by omega) (by omega);rw[<-ea]at k1;have K1:=hide k1;have EB:=hide eb;have EC:=hide ec;have oO:=HH.o.off d.gOl;have oF:=HH.o.off d.gFl;have oM:=HH.o.off d.gml.1;have dd:=hide (aQ oO (aQ oF oM));clear ea eb ec k1 bh HH oO oF oM;go_wp2_with fail;apply K1.o.mono;rintro e w8 ⟨rfl,v8,bj,ap⟩;have fv:=ap.step.size;have k2:=IG k base (b-1) 5 v8 (bs++numBits (a-257) 5) w8 bj (by omega) (by omega) (by simp[aM];omega) (by omega);rw[<-EB.o]at k2;have dn:=hide ap;clear bj ap K1 EB;go_wp2_with fail;apply k2.mono;rintro e w9 ⟨rfl,v9,dy,bp⟩;have k3:=IG k base (c-4) 4 v9 (bs++numBits (a-257) 5++numBits (b-1) 5) w9 dy (by omega) (by omega) (by simp[aM];omega) (by have:=bp.step.size;omega);rw[<-EC.o]at k3;have K3:=hide k3;have bb:=hide (dn.o.trans bp);go_wp2_with fail;apply K3.o.mono;rintro e eu ⟨rfl,ee,C,al⟩;have ao:=bb.o.trans al;obtain⟨K,H⟩:=aP (bs++numBits (a-257) 5++numBits (b-1) 5++numBits (c-4) 4);rw[<-H]at C;have ew:K.length=bs.length+14:=by rw[H];simp[aM]
 have f:=hide (show Sk eu k base ee (K++oN F 0) by simpa[oN]using C);have aa:=hide ao;have eh:=hide H;clear C al K3 bb ao H;go_wp2_with fail;go_loopg [45] c (fun kx u45 wr=>∃(i:Nat) (v1:aK),u45=V (i:Nat)/\i<=c/\kx=c-i/\Hid (Sk wr k base v1 (K++oN F i))/\Hid (dH k w7 v wr v1));case atStart=>exact⟨0,ee,rfl,by omega,rfl,f,aa⟩
 case round=>
  clear f aa;obtain⟨i,v1,rfl,fi,fj,f,u⟩:=hrel;obtain⟨oO,oF,oM⟩:=dd.o;have fp:=u.o.step.size;by_cases fk:i<c
  ·have dv:(i:Int)<(c:Int):=(by omega);have cO:=bA.cell (bA.wrt d.od oO u.o) i (by omega);dsimp only at cO;have Q:often F (bP[i]?.getD 0)<=7:=by
    have aw:=d.cod;rw[aw.fs];exact rV _ _ _ (by omega) (by rw[fI];decide)
   obtain⟨y,hy⟩:=aP (often F (bP[i]?.getD 0));rw[<-hy]at cO Q;have kk:=IG k base y 3 v1 (K++oN F i) wr f.o (by omega) (by omega) (by rw[aN,kJ];omega) (by omega);have ei:((i:Int)).toNat=i:=(by omega);have pi:(0:Int)<=(i:Int):=(by omega);have HY:=hide hy;clear hy oO oF oM f;go_wp2_with (go_at_call 93;apply kk.mono;rintro e ev ⟨rfl,ef,cd,ck⟩);go_roundg (c-(i+1));case measure=>omega
   case rel=>exact⟨i+1,ef,by go_num,by omega,rfl,(by rw[yU,<-dB,<-HY.o];exact cd:Sk ev k base ef (K++oN F (i+1))),u.o.trans ck⟩
  ·have dv:¬(i:Int)<(c:Int):=(by omega);have du:i=c:=(by omega);subst du;have R:F.length=19:=(by rw[d.cod.fs,cK,fI]);have Q:∀j:Nat,F[j]?.getD 0<=15:=fun j=>by
    have P:often F j<=7:=by
     rw[d.cod.fs];exact rV _ _ _ (by omega) (by rw[fI];decide)
    have e9:F[j]?.getD 0=often F j:=rfl;omega
   have z:=bA.wrt d.fl oF u.o;have be:Ints wr gF 0 F:=⟨fun j hj=>by rw[dS];exact bA.cell z j (by omega),Q,by omega⟩
   have bc:∀x∈l,iB F x.s:=fun x hx=>by
    have aw:=d.cod;have fd:=(aw.tells.sym x hx).1;have S:=D9 hx (by omega);rw[<-aw.fs]at S;refine qD Q S.1 (by omega) ?_;exact S.2
   obtain⟨x0,cn⟩:∃x,x∈l:=by
    have hN:=ar.o;cases l with
    |nil=>simp at hN;omega
    |cons x l=>exact⟨x,by simp⟩
   have bf:fF F=true:=by
    have S:=D9 cn (by have:=(d.cod.tells.sym x0 cn).1;omega);rw[<-d.cod.fs]at S;exact S.1
   have kb:=FE gF 0 19 F wr be z.lt (wB Q bf) (by omega);rw[R]at kb;have KB:=hide kb;have cx:=hide bc;clear kb bc Q z be bf cn oO oF oM;go_wp2_with fail;apply KB.o.mono;rintro e ay ⟨gb,rfl,el,dr,p⟩;have ab:lS ay gb F:=(by unfold lS;rw[R];exact dr);obtain⟨oO,oF,oM⟩:=dd.o;have W:=oM.wrt d.gml.2 u.o;have T:=f.o.off el;have A:GU ay gm l:=(d.mks.step u.o.step (fun y=>y.elim oM.1 oM.2)).step p (fun y=>y);have D:=f.o.step0 p;have an:=u.o.step0 p;obtain⟨M,I⟩:=aP (K++oN F i);rw[<-I]at D;have ex:M.length<=bs.length+100:=(by rw[I,aN,kJ];omega);have fe:=p.size;have ey:=d.gml.2;have ct:=hide I;have eg:=hide (aQ ab (aQ A (aQ W T)));have Y:=hide (show Sk ay k base v1 (M++kN F (l.take 0)) by simpa[kN]using D);have br:=hide an;clear ab oO oF oM W T A D an I dr p KB f u;go_wp2_with fail;go_loopg [57] N (fun kx u57 wq=>∃(t:Nat) (v2:aK),u57=V t/\t<=N/\kx=N-t/\Hid (Sk wq k base v2 (M++kN F (l.take t)))/\Hid (dH k ay v1 wq v2));case atStart=>exact⟨0,v1,rfl,by omega,rfl,Y,dH.refl _ _ _⟩
   case round=>
    clear Y;obtain⟨t,v2,rfl,fo,fa,f,Z⟩:=hrel;have fq:=Z.o.step.size;by_cases fb:t<N
    ·have bx:(t:Int)<(N:Int):=(by omega);obtain⟨x,hx⟩:∃x,l[t]? =some x:=⟨_,bV (by have:=ar.o;omega)⟩
     have co:=nZ hx;obtain⟨ab,A,W,T⟩:=eg.o;obtain⟨m0,m1,m2⟩:=A.step Z.o.step (fun y=>y.elim W.1 W.2) t x hx;have af:=cx.o x co;obtain⟨q1,q2,q3⟩:=d.cod.tells.sym x co;have bu:lS wr gb F:=Z.o.step.at_ ab (fun y=>y.elim T.1 T.2);obtain⟨o9,dw⟩:∃o:Obj,o= .cells #[V x.s,V x.x,V x.m] 175:=⟨_,rfl⟩
     have ae:=lS.cell (show lS (wr.alloc o9) gb F from(dG _ _ _ (aO bu)).trans bu) af;have eo:(kN F (l.take t)).length<=22*t:=by
      have av:∀j:Nat,F[j]?.getD 0<=15:=fun j=>by
       have P:often F j<=7:=by
        rw[d.cod.fs];exact rV _ _ _ (by omega) (by rw[fI];decide)
       have e9:F[j]?.getD 0=often F j:=rfl;omega
      have P:=FY av (l.take t) (fun q hq=>(d.cod.tells.sym q (zN hq)).2.2);rw[dF]at P;omega
     have bq:x.x<1000000:=by
      have:2^x.m<=2^7:=gL (by omega) q3;have e7:(2:Nat)^7=128:=rfl;omega
     have kk:=yY k base gb 0 19 19 x.s (Go.dM.keyOf F x.s) (F[x.s]?.getD 0) x.x x.m v2 (M++kN F (l.take t)) (wr.alloc o9) (f.o.step0 ((aU _ _).alloc _)) ae (by omega) af.lo af.hi af.le bq (by omega) (by rw[aN];omega) (by simp;omega);rw[dw]at kk;have ac:M++kN F (l.take t)++nT (Go.dM.keyOf F x.s-2^(F[x.s]?.getD 0)) (F[x.s]?.getD 0)++numBits x.x x.m=M++kN F (l.take (t+1)):=by
      rw[Ea hx];unfold dN;simp
     rw[ac]at kk;have et:((t:Int)).toNat=t:=(by omega);have pt:(0:Int)<=(t:Int):=(by omega);obtain⟨xs,cp⟩:=aP x.s;obtain⟨xx,cq⟩:=aP x.x;obtain⟨xm,aq⟩:=aP x.m;rw[<-cp,<-cq,<-aq]at kk;rw[<-cp]at m0;rw[<-cq]at m1;rw[<-aq]at m2;have ez:gm<wr.heap.size:=(by omega);clear ac hx co ab A W T af q1 q2 q3 bu dw ae eo bq cp cq aq f;go_wp2_with (go_at_call 129;apply kk.mono;rintro e fx ⟨rfl,es,ce,cl⟩);go_roundg (N-(t+1));case measure=>omega
     case rel=>exact⟨t+1,es,by go_num,by omega,rfl,ce,Z.o.trans ((dH.refl k wr v2).alloc _ |>.trans cl)⟩
    ·have bx:¬(t:Int)<(N:Int):=(by omega);have dz:t=N:=(by omega);subst dz;have ds:Sk wr k base v2 (bs++jL a b i F l):=by
      have P:=f.o;rw[ar.o,sI,ct.o,eh.o]at P;unfold jL;simpa using P
     have da:=hide ds;go_wp2_with fail;go_end0;exact⟨rfl,v2,a,b,i,F,l,da.o,d.cod,(ed.trans br.o).trans Z.o⟩
def aa1 (w:aH)(ps:List Pc)(e:Ending)(w':aH):Prop:=∃g1 g2 f1 f2,e= .returned (.tuple #[.slice (some (U g1 0)) 286 286, .slice (some (U g2 0)) 30 30])/\wP ps ps.length f1 f2/\
      w.heap.size<=g1/\w.heap.size<=g2/\fB w' g1 286 (often (bI (fK f1 286) 15))/\fB w' g2 30 (often (bI (fK f2 30) 15))/\O w w'
def Kc (w:aH):Calls prog 164 #[.slice none 0 0] w (aa1 w []):=by
 unfold aa1;obtain⟨i0,hi,T,X,Y⟩:=eD info3;go_enter func164,ntmps164;go_wp2_with (first
  |(at_make;refine sD _ rfl _ _ 57 rfl w.heap.size 3 i0 (V 0) 1 underlying57 hi T X .i64 .i64 _ _ 286 rfl rfl rfl rfl (by rw[Y];omega) (by unfold maxLen;omega) (aS _) ?_;intro w1 g u;have z:=(aU (fun _=>False) w).grown u (fun k e=>by cases e);have f:=vY g;have b:=hide f;have r:=hide z;have Z:=f.lt;have cw:=f.cell 256 (by decide);have fw:=f.free 256;clear g u f z)
  |(at_make;refine sD _ rfl _ _ 57 rfl w1.heap.size 3 i0 (V 0) 1 underlying57 hi T X .i64 .i64 _ _ 30 rfl rfl rfl rfl (by rw[Y];omega) (by unfold maxLen;omega) (aS _) ?_;intro w2 j v;have a:=(aU (fun _=>False) w1).grown v (fun k e=>by cases e);have Q:=vY j;have c:=hide Q;have d:=hide a;have ac:=a.cell cw (fun y=>y);have ad:=(b.o.step a (fun y=>y)).free 256;clear j v Q a))
 obtain⟨q,B⟩:=aP w.heap.size;obtain⟨K,M⟩:=aP w1.heap.size;rw[<-B]at b Z|-
 rw[<-M]at c Z|-
 have F:wP [] 0 (fun i=>if i=256 then 1 else 0) (fun _=>0):=⟨by simp,fun p hp=>by simp at hp,fun i=>by split<;>omega,fun i=>by omega, .nil⟩
 have N:fB (w2.setCell (U q 256) (V 1)) q 286 (fun i=>if i=256 then 1 else 0):=by
  refine((b.o.step d.o (fun y=>y)).set 256 (V 1)).congr (fun i hi=> ?_);by_cases e:i=256
  ·simp[e]
  ·simp[e]
 have P:fB (w2.setCell (U q 256) (V 1)) K 30 (fun _=>0):=c.o.other (by show K≠q;omega) _;have x:O w (w2.setCell (U q 256) (V 1)):=(r.o.trans d.o).aZ (by show w.heap.size<=q;omega) _;have G:=hide N;have H:=hide P;have J:=hide x;have ae:=hide B;clear N P x B M b c r d cw fw ac ad;go_loopg [14] 0 (fun kx u14 wr=>u14=V 0/\Hid (fB wr q 286 (fun i=>if i=256 then 1 else 0))/\Hid (fB wr K 30 (fun _=>0))/\Hid (O w wr));case atStart=>exact⟨rfl,G,H,J⟩
 case round=>
  clear G H J;obtain⟨rfl,b,c,I⟩:=hrel;have C:=vH q 0 286 15 (fK (fun i=>if i=256 then 1 else 0) 286) wr (fB.nums b.o) (by rw[bJ];omega) (by rw[bJ];omega) (fun i=>by have:=CY (n:=286) F.le1 i;omega) (by omega) (by omega) (by rw[bJ];decide);rw[bJ]at C;have D:=fun(W:aH) (hs:O wr W)=>vH K 0 30 15 (fK (fun _=>0) 30) W ((fB.nums c.o).step hs (fun y=>y)) (by rw[bJ];omega) (by rw[bJ];omega) (fun i=>by have:=CY (n:=30) F.le2 i;omega) (by omega) (by omega) (by rw[bJ];decide);rw[bJ]at D;have aa:=hide C;have ab:=hide D;have hz:=I.o.size;clear C D;go_wp2_with (first
   |(go_at_call_of 183 q;apply aa.o.mono;rintro e w5 ⟨g1,rfl,af,R,l⟩)
   |(go_at_call_of 183 K;apply(ab.o _ l).mono;rintro e w6 ⟨g2,rfl,ag,S,A⟩))
  go_ret2;exact⟨g1,g2,_,_,rfl,F,by omega,by have:=l.size;omega,bA.step R A (fun y=>y),S,(I.o.trans l).trans A⟩
def BP (p:Pc):Prop:=(p.l=0/\p.b<256)\/(3<=p.l/\p.l<=258/\1<=p.d/\p.d<=32768)
def Vj (d:aK)(a:List Pc)(w:aH)(hp:zW w d a)(c:a.length<=100000)(b:∀p∈a,BP p):Calls prog 164 #[d] w (aa1 w a):=by
 rcases hp with⟨rfl,rfl⟩|⟨j,off,cap,rfl,e,f⟩
 ·exact Kc w
 ·exact Ii j off cap a w f e c b
structure Fits (ps:List Pc)(L1 L2:aD):Prop where
 l1:L1.length=286
 l2:L2.length=30
 le1:∀i,often L1 i<=15
 le2:∀i,often L2 i<=15
 aE0:fF L1=true
 aG9:(∀i,often L2 i=0)\/fF L2=true
 end_:iB L1 256
 need:∀p∈ps,Needs L1 L2 p/\(p.l≠0->fF L2=true)
 is_:∃f1 f2,Cnt ps f1 f2/\L1=bI (fK f1 286) 15/\L2=bI (fK f2 30) 15
def iJ (L:aD)(i:Nat):L[i]?.getD 0=often L i:=rfl
def wP.fits {q:List Pc}{f1 f2:Nat->Nat}(h:wP q q.length f1 f2)(v:∀p∈q,BP p):Fits q (bI (fK f1 286) 15) (bI (fK f2 30) 15):=by
 have k:(fK f1 286).length=286:=bJ _ _;have o:(fK f2 30).length=30:=bJ _ _;have b1:(fK f1 286).length<=2^15:=by rw[k];decide
 have b2:(fK f2 30).length<=2^15:=by rw[o];decide
 have c1:∀s,s<286->1<=f1 s->s∈comes (fK f1 286) (fK f1 286).length:=fun s hs f=>by
  rw[oQ,k,sO _ _ _ hs];exact⟨hs,f⟩
 have c2:∀s,s<30->1<=f2 s->s∈comes (fK f2 30) (fK f2 30).length:=fun s hs f=>by
  rw[oQ,o,sO _ _ _ hs];exact⟨hs,f⟩
 have le1:∀i,often (bI (fK f1 286) 15) i<=15:=fun i=>rV _ _ _ (by omega) b1;have le2:∀i,often (bI (fK f2 30) 15) i<=15:=fun i=>rV _ _ _ (by omega) b2;have m1:fF (bI (fK f1 286) 15)=true:=zS _ 15 (by omega) (by omega) b1 (List.length_pos_of_mem (c1 256 (by omega) h.end_));have m2:∀s,s<30->1<=f2 s->fF (bI (fK f2 30) 15)=true:=fun s hs f=>zS _ 15 (by omega) (by omega) b2 (List.length_pos_of_mem (c2 s hs f));have k1:∀s,s<286->1<=f1 s->iB (bI (fK f1 286) 15) s:=fun s hs f=>qD le1 m1 (by rw[cK,k];exact hs) (wZ (by omega) b1 (c1 s hs f));have k2:∀s,s<30->1<=f2 s->iB (bI (fK f2 30) 15) s:=fun s hs f=>qD le2 (m2 s hs f) (by rw[cK,o];exact hs) (wZ (by omega) b2 (c2 s hs f));refine⟨by rw[cK,k],by rw[cK,o],le1,le2,m1,?_,k1 256 (by omega) h.end_,fun p hp=> ?_,f1,f2,by have A:=h.is_;rw[sI]at A;exact A,rfl,rfl⟩
 ·rcases DZ (comes (fK f2 30) (fK f2 30).length).length with u|u
  ·refine .inl (fun i=>MG (fun hi=> ?_));rw[kP u]at hi;simp at hi
  ·exact .inr (zS _ 15 (by omega) (by omega) b2 u)
 ·have F:=h.cnt p (by rw[sI];exact hp);have j:=v p hp;rcases F with⟨a,b⟩|⟨a,s,x,m,D,H,G,b,c,d,e⟩
  ·have B:p.b<256:=by rcases j with j|j<;>omega
   exact⟨.inl ⟨a,B,k1 p.b (by omega) b⟩,fun y=>absurd a y⟩
  ·have g:3<=p.l/\p.l<=258/\1<=p.d/\p.d<=32768:=by rcases j with j|j<;>omega
   have B:=b.bd;have C:=d.bd;refine⟨.inr ⟨g.1,g.2.1,g.2.2.1,g.2.2.2,fun s' x' z r=> ?_,fun s' x' z r=> ?_⟩,fun _=>m2 D C.2.2 e⟩
   ·rw[<-TF b r];exact k1 s (by omega) c
   ·rw[<-LG d r];exact k2 D C.2.2 e
def BJ (last:Bool)(ps:List Pc)(tb:List Bool):Prop:=∃L1 L2 a b c F l bits,Fits ps L1 L2/\M8 L1 L2 a b c F l/\iX L1 L2 ps bits/\bits.length<=48*ps.length/\tb=bS last 2++jL a b c F l++bits++dN L1 256
def LX {e f:aD}{a b c:Nat}{F:aD}{l:List Mk}(h:M8 e f a b c F l):(jL a b c F l).length<=10000:=by
 have d:∀j:Nat,F[j]?.getD 0<=15:=fun j=>by
  have v:often F j<=7:=by
   rw[h.fs];exact rV _ _ _ (by omega) (by rw[fI];decide)
  rw[iJ];omega
 have k:=FY d l (fun q g=>(h.tells.sym q g).2.2);have o:=h.tells.count;have p:=h.a2;have r:=h.b2;have u:=h.c2;unfold jL;simp only[aN,aM,kJ];omega
def YR (k base:Nat)(last:Bool)(v pv:aK)(K:List Bool)(I:List Pc)(w:aH)(h:Sk w k base v K)(hp:zW w pv I)(Z:∀j off n c,pv= .slice (some (U j off)) n c->Off k v j)(bb:I.length<=100000)(X:∀p∈I,BP p)(hO:bL w)(al:∀j,j<4->Off k v j)(hl:K.length<50000000000000)(ao:base<=w.heap.size):Calls prog 137 #[E k,pv, .bool last] w fun e w'=>e= .returned (.tuple #[])/\∃v' tb,Sk w' k base v' (K++tb)/\BJ last I tb/\dH k w v w' v':=by
 have M:=Vj pv I w hp bb X;have HO:=hide (aQ hO al);obtain⟨pa,pn,pc,rfl⟩:∃a n c,pv= .slice a n c:=by
  rcases hp with⟨_,h⟩|⟨j',ah,cap,h,_⟩
  ·exact⟨_,_,_,h⟩
  ·exact⟨_,_,_,h⟩
 go_enter func137,ntmps137;go_wp2_with fail;apply M.mono;rintro e w1 ⟨g1,g2,f1,f2,rfl,M,aq,ar,u,x,g⟩;have d:=M.fits X;obtain⟨G,N⟩:=aP (bI (fK f1 286) 15);obtain⟨J,P⟩:=aP (bI (fK f2 30) 15);rw[<-N,<-P]at d;rw[<-N]at u;rw[<-P]at x;have ab:=h.step0 g;have bf:=g.size;have kh:=zH k base 2 last v K w1 ab (by omega) (by omega) (by omega);have HC:=hide (aQ u x);go_wp2_with fail;apply kh.mono;rintro e w2 ⟨rfl,v2,ac,f⟩;have o1:=h.off aq;have o2:=h.off ar;obtain⟨u,x⟩:=HC.o;have C:=bA.wrt u o1 f;have D:=bA.wrt x o2 f;have bc:=o1.wrt u.lt f;have be:=o2.wrt x.lt f;have d:=d;have ay:gG w2 g1 0 G:=fun i hi=>by rw[dS];exact bA.cell C i (by rw[d.l1]at hi;exact hi)
 have az:gG w2 g2 0 J:=fun i hi=>by rw[dS];exact bA.cell D i (by rw[d.l2]at hi;exact hi)
 have bg:=f.step.size;have ak:bL w2:=(HO.o.1.step g (fun _ _ y=>y)).step f.step (fun j hj y=>by
  have o:=HO.o.2 j hj;exact y.elim o.1 o.2)
 have kc:=RY k base g1 g2 v2 (K++bS last 2) G J w2 ac ay az d.l1 d.l2 d.le1 d.le2 ak (by rw[aN,aT];omega) (by omega);have HD:=hide (aQ C (aQ D (aQ bc be)));have ai:=hide (((dH.refl k w v).step0 g).trans f);go_wp2_with fail;apply kc.mono;rintro e w3 ⟨rfl,v3,a,b,c,F,l,z,H,q⟩;obtain⟨C,D,o1,o2⟩:=HD.o;have d:=d;have S:=bA.wrt C o1 q;have T:=bA.wrt D o2 q;have au:Ints w3 g1 0 G:=⟨fun i hi=>by rw[dS];exact bA.cell S i (by rw[d.l1]at hi;exact hi),d.le1,by rw[d.l1];omega⟩
 have av:Ints w3 g2 0 J:=⟨fun i hi=>by rw[dS];exact bA.cell T i (by rw[d.l2]at hi;exact hi),d.le2,by rw[d.l2];omega⟩
 have bh:=q.step.size;have ax:AX J:=by
  rcases d.aG9 with h0|h0
  ·exact Ij h0
  ·exact wB d.le2 h0
 have kb:=M6 g1 0 286 g2 0 30 G J w3 au av S.lt T.lt (wB d.le1 d.aE0) ax (by rw[d.l1];omega) (by rw[d.l2];omega);rw[d.l1,d.l2]at kb;have aj:=hide (ai.o.trans q);go_wp2_with fail;apply kb.mono;rintro e w4 ⟨b1,b2,rfl,am,an,Q,R,A⟩;have d:=d;have ad:=z.step0 A;have bj:=A.size;have B:dH k w v w4 v3:=aj.o.step0 A;have Y:zW w4 (.slice pa pn pc) I:=by
  rcases hp with h|⟨j,off,cap,h1,h2,h3⟩
  ·exact .inl h
  ·have oj:=Z j off _ cap h1;refine .inr ⟨j,off,cap,h1,by omega,fun i p hp=> ?_⟩;obtain⟨q1,q2,q3⟩:=h3 i p hp;have nj:¬(j=k\/v.ownBlock=some j):=fun y=>y.elim oj.1 oj.2;exact⟨B.step.cell (p:=(U j _)) q1 nj,B.step.cell (p:=(U j _)) q2 nj,B.step.cell (p:=(U j _)) q3 nj⟩
 have aa:∀j off n c,Value.slice pa pn pc= .slice (some (U j off)) n c->Off k v3 j:=fun j off n c e=>by
  have aw:j<w.heap.size:=by
   rcases hp with⟨_,h⟩|⟨j',ah,cap,h,h2,_⟩
   ·rw[e]at h;cases h
   ·rw[e]at h;simp only[nK,fH,wG,jX]at h;rw[h.1.1];exact h2
  exact(Z j off n c e).wrt aw B
 have kp:=zY k base b1 b2 v3 (.slice pa pn pc) (K++bS last 2++jL a b c F l) I G J w4 ad Y aa Q R (z.off am) (z.off an) (fun p hp=>(d.need p hp).1) d.end_ (by omega) (by
  have:=LX H;rw[aN,aN,aT];omega) (by omega)
 rw[d.l1,d.l2]at kp;go_wp2_with fail;apply kp.mono;rintro e w5 ⟨rfl,v5,bits,ae,ba,ap,ag⟩;have W:BJ last I (bS last 2++jL a b c F l++bits++dN G 256):=⟨G,J,a,b,c,F,l,bits,d,H,ba,ap,rfl⟩
 have af:Sk w5 k base v5 (K++(bS last 2++jL a b c F l++bits++dN G 256)):=by simpa using ae
 have r:=hide (aQ af (aQ W (B.trans ag)));go_wp2_with fail;go_end0;exact⟨rfl,v5,_,r.o.1,r.o.2.1,r.o.2.2⟩
inductive zB:List Pc->List Bool->Prop
 |last (ps:List Pc) (tb:List Bool) (h:ps.length<=16384) (ht:BJ true ps tb):zB ps tb
 |more (ps:List Pc) (tb bits:List Bool) (h:16384<ps.length) (ht:BJ false (ps.take 16384) tb) (hr:zB (ps.drop 16384) bits):zB ps (tb++bits)
def KH {last:Bool}{d:List Pc}{e:List Bool}(h:BJ last d e):e.length<=10018+48*d.length:=by obtain⟨j,k,a,b,c,F,l,bits,f,g,o,p,rfl⟩:=h;have q:=LX g;have r:=f.le1 256;rw[aN,aN,aN,aT,fP,iJ];omega
def U6 (k base box:Nat)(last:Bool)(v f:aK)(g:List Bool)(d:List Pc)(w:aH)(h:Sk w k base v g)(B:w.cell? (U box 0)=some (E k))(z:∃a n c,f= .slice a n c)(hp:zW w f d)(y:∀j off n c,f= .slice (some (U j off)) n c->Off k v j)(x:d.length<=100000)(u:∀p∈d,BP p)(H:bL w)(q:∀j,j<4->Off k v j)(I:g.length<50000000000000)(b:base<=w.heap.size):Calls prog 136 #[f, .bool last,E box] w fun e w'=>e= .returned (.tuple #[])/\∃C l,Sk w' k base C (g++l)/\BJ last d l/\dH k w v w' C:=by have D:=hide (YR k base last v f g d w h hp y x u H q I b);obtain⟨a,n,c,rfl⟩:=z;go_enter func136,ntmps136;go_wp2_with fail;apply D.o.mono;rintro r w1 ⟨rfl,v1,l,G,J,A⟩;have F:=hide (aQ G (aQ J A));go_wp2_with fail;go_end0;exact⟨rfl,v1,l,F.o⟩
structure InT (w wr:aH)(k base j o c:Nat)(v v1:aK)(ps zs:List Pc)(bs b1:List Bool):Prop where
 sk:Sk wr k base v1 (bs++b1)
 wrt:dH k w v wr v1
 lies:vJ wr j o zs
 fine:∀p∈zs,BP p
 tol:∀rest,zB zs rest->zB ps (b1++rest)
 len:b1.length+100*zs.length<=100*ps.length
 cap:zs.length<=c
def Eh {j o:Nat}{d:List Pc}(h:vJ w j o d):vJ w j (o+m*3) (d.drop m):=fun i p hp=>by
 rw[kM]at hp
 obtain⟨a,b,c⟩:=h (m+i) p hp
 rw[wO,<-iV]at a b c
 exact⟨a,b,c⟩
def Gj {j o:Nat}{a:List Pc}(h:vJ w j o a):vJ w j o (a.take m):=fun i p hp=>by
 have hi:=(BD.1 hp).1
 rw[dF]at hi
 rw[jQ (by omega)]at hp
 exact h i p hp
def ZA (k base box j off cap:Nat)(v:aK)(D:List Bool)(q:List Pc)(w:aH)(h:Sk w k base v D)(S:w.cell? (U box 0)=some (E k))(R:box≠k/\box<base)(ae:vJ w j off q)(N:j≠k/\j<base)(T:q.length<=cap)(J:∀p∈q,BP p)(am:q.length<=1048576)(hO:bL w)(h4:4<=k/\4<=base)(hl:D.length<1000)(ac:base<=w.heap.size):Calls prog 135 #[.slice (some (U j off)) q.length cap,V 16384, .func (.func 136) #[] #[E box]] w fun e w'=>e= .returned (.tuple #[])/\∃v' bits,Sk w' k base v' (D++bits)/\zB q bits/\bits.length<=200000000/\dH k w v w' v':=by
 have HH:=hide (show InT w w k base j off cap v v q q D [] from⟨by rw[bG];exact h,dH.refl _ _ _,ae,J,fun rest hr=>hr,by simp,T⟩);have X:∀b,b≠k->b<base->¬(b=k\/v.ownBlock=some b):=fun b z h2 y=>by
  rcases y with y|y
  ·exact z y
  ·obtain⟨B1,hB⟩:=h;have:=(hB.own.lt b y).1;omega
 have u:∀(wr:aH) (v1:aK),dH k w v wr v1->wr.cell? (U box 0)=some (E k):=fun wr v1 hw=>hw.step.cell (p:=(U box 0)) S (X box R.1 R.2);have x:∀(wr:aH) (v1:aK),dH k w v wr v1->bL wr:=fun wr v1 hw=>hO.step hw.step (fun b hb=>X b (by omega) (by omega));have f:∀(wr:aH) (v1:aK) (b1:List Bool),Sk wr k base v1 b1->∀b,b≠k->b<base->Off k v1 b:=fun wr v1 b1 hs b z h2=>⟨z,fun y=>by
  obtain⟨B1,hB⟩:=hs;have:=(hB.own.lt b y).1;omega⟩
 have Q:=hide (aQ u (aQ x f));go_enter func135,ntmps135;go_wp2_with fail;go_loopg [0] q.length (fun g u0 wr=>∃(n o c:Nat) (v1:aK) (A:List Pc) (b1:List Bool),u0= .slice (some (U j o)) n c/\n=A.length/\n<=g/\InT w wr k base j o c v v1 q A D b1/\c<=cap);case atStart=>exact⟨q.length,off,cap,v,q,[],rfl,rfl,aS _,HH.o,aS _⟩
 case round=>
  obtain⟨n,o,c,v1,A,b1,rfl,hn,al,a,ai⟩:=hrel;obtain⟨u,x,f⟩:=Q.o;have B:=u wr v1 a.wrt;have C:=x wr v1 a.wrt;have l:=f wr v1 _ a.sk;have an:=a.wrt.step.size;have W:=a.cap;have aj:=a.len;by_cases af:16384<n
  ·have I:(n:Int)>16384:=(by omega);have ah:(16384:Int)<=(c:Int):=(by omega);have ak:(16384:Int)<=(n:Int):=(by omega);have ag:¬c=16384:=(by omega);have ad:16384<c:=(by omega);have aa:(A.take 16384).length=16384:=(by rw[dF];omega);have K:j<wr.heap.size:=(by omega);have hC:=U6 k base box false v1 (.slice (some (U j o)) 16384 c) (D++b1) (A.take 16384) wr a.sk B ⟨_,_,_,rfl⟩ (.inr ⟨j,o,c,by rw[aa],K,Gj a.lies⟩) (fun j' ab n' c' hu=>by
    simp only[nK,fH,wG,jX]at hu;rw[<-hu.1.1];exact l j N.1 N.2) (by omega) (fun p hp=>a.fine p (zN hp)) C (fun b hb=>l b (by omega) (by omega)) (by rw[aN];omega) (by omega)
   have G:=hide (aQ a hn);clear a hn W B C l aa u x f;go_wp2_with fail;apply hC.mono;rintro r w1 ⟨rfl,v2,M,z,F,d⟩;have H:=hide (aQ z (aQ F d));clear z F d;go_wp2_with fail;go_roundg (gk-16384);case measure=>omega
   case rel=>
    obtain⟨a,hn⟩:=G.o;obtain⟨z,F,d⟩:=H.o;have Z:=KH F;rw[dF]at Z;refine⟨n-16384,o+49152,c-16384,v2,A.drop 16384,b1++M,by first|rfl|(congr 3;omega),by rw[dX,hn],by omega,⟨by rw[<-dB];exact z,a.wrt.trans d,?_,fun p hp=>a.fine p (IC hp),fun rest hr=> ?_,?_,by have:=a.cap;rw[dX];omega⟩,by omega⟩
    ·have h9:vJ w1 j o A:=fun i p hp=>by
      have Y:=Q.o.2.2 wr v1 _ a.sk j N.1 N.2;obtain⟨q1,q2,q3⟩:=a.lies i p hp;have nj:¬(j=k\/v1.ownBlock=some j):=fun y=>y.elim Y.1 Y.2;exact⟨d.step.cell (p:=(U j _)) q1 nj,d.step.cell (p:=(U j _)) q2 nj,d.step.cell (p:=(U j _)) q3 nj⟩
     exact Eh (m:=16384) h9
    ·rw[dB];exact a.tol _ (.more A M rest (by omega) F hr)
    ·rw[aN,dX];omega
  ·have I:¬(n:Int)>16384:=(by omega);have K:j<wr.heap.size:=(by omega);have hC:=U6 k base box true v1 (.slice (some (U j o)) n c) (D++b1) A wr a.sk B ⟨_,_,_,rfl⟩ (.inr ⟨j,o,c,by rw[hn],K,a.lies⟩) (fun j' ab n' c' hu=>by
    simp only[nK,fH,wG,jX]at hu;rw[<-hu.1.1];exact l j N.1 N.2) (by omega) a.fine C (fun b hb=>l b (by omega) (by omega)) (by rw[aN];omega) (by omega)
   have G:=hide (aQ a hn);clear a hn W B C l u x f;go_wp2_with fail;apply hC.mono;rintro r w1 ⟨rfl,v2,M,z,F,d⟩;obtain⟨a,hn⟩:=G.o;have Z:=KH F;have P:=hide (show Sk w1 k base v2 (D++(b1++M))/\zB q (b1++M)/\(b1++M).length<=200000000/\dH k w v w1 v2 from⟨by
    rw[<-dB];exact z,a.tol _ (.last A M (by omega) F),by rw[aN];omega,a.wrt.trans d⟩)
   go_wp2_with fail;go_end0;exact⟨rfl,v2,_,P.o⟩
def VO (k base box:Nat)(v:aK)(b:List Bool)(w:aH)(h:Sk w k base v b)(d:w.cell? (U box 0)=some (E k))(D:bL w)(H:4<=k/\4<=base)(J:b.length<1000)(a:base<=w.heap.size):Calls prog 135 #[.slice none 0 0,V 16384, .func (.func 136) #[] #[E box]] w fun e w'=>e= .returned (.tuple #[])/\∃x bits,Sk w' k base x (b++bits)/\zB [] bits/\bits.length<=200000000/\dH k w v w' x:=by
 have g:∀j,j<4->Off k v j:=fun j I=>⟨by omega,fun y=>by
  obtain⟨G,C⟩:=h;have:=(C.own.lt j y).1;omega⟩
 have z:=hide (U6 k base box true v (.slice none 0 0) b [] w h d ⟨_,_,_,rfl⟩ (.inl ⟨rfl,rfl⟩) (fun j off n c F=>by cases F) (by simp) (fun p hp=>by simp at hp) D g (by omega) a);go_enter func135,ntmps135;go_wp2_with fail;go_loopg [0] 1 (fun _ u0 wr=>u0= .slice none 0 0/\wr=w);case atStart=>exact⟨rfl,rfl⟩
 case round=>
  obtain⟨rfl,rfl⟩:=hrel;go_wp2_with fail;apply z.o.mono;rintro r w1 ⟨rfl,v1,f,B,u,q⟩;have l:=KH u;have A:=hide (show Sk w1 k base v1 (b++f)/\zB [] f/\f.length<=200000000/\dH k wr v w1 v1 from⟨B, .last [] f (by simp) u,by simp at l;omega,q⟩);go_wp2_with fail;go_end0;exact⟨rfl,v1,f,A.o⟩
def Gb (H:aK)(z:List Pc)(w:aH)(hp:zW w H z)(D:∀a n c,H= .slice a n c->n<=c)(u:∀p∈z,BP p)(K:z.length<=1048576)(Z:bL w)(h4:4<=w.heap.size):Calls prog 105 #[H] w fun e w'=>∃I bits,e= .returned I/\zB z bits/\oI w w' I bits:=by
 have ad:=ar9
 have J:∀(k:Nat) (w2:aH),k=w.heap.size->O w w2->k+2<=w2.heap.size->Sk w2 k (k+2) (.slice none 0 0) []->w2.cell? ⟨k+1,0,none⟩=some (E k)->
   Calls prog 135 #[H,V 16384, .func (.func 136) #[] #[.pointer (some ⟨k+1,0,none⟩)]] w2
   fun e w'=>e= .returned (.tuple #[])/\∃I bits,Sk w' k (k+2) I ([]++bits)/\zB z bits/\bits.length<=200000000/\dH k w2 (.slice none 0 0) w' I:=fun k w2 hk hs T d S=>by
  have C:=Z.step hs (fun _ _ y=>y);rcases hp with⟨rfl,rfl⟩|⟨j,off,cap,rfl,h2,f⟩
  ·exact VO k (k+2) (k+1) (.slice none 0 0) [] w2 d S C ⟨by omega,by omega⟩ (by simp) T
  ·exact ZA k (k+2) (k+1) j off cap (.slice none 0 0) [] z w2 d S ⟨by omega,by omega⟩ (fun i p v=>⟨hs.cell (f i p v).1 (fun y=>y),hs.cell (f i p v).2.1 (fun y=>y),hs.cell (f i p v).2.2 (fun y=>y)⟩) ⟨by omega,by omega⟩ (D _ _ _ rfl) u K C ⟨by omega,by omega⟩ (by simp) T
 obtain⟨ua,um,uc,rfl⟩:∃a n c,H= .slice a n c:=by
  rcases hp with⟨_,h⟩|⟨j',W,cap,h,_⟩
  ·exact⟨_,_,_,h⟩
  ·exact⟨_,_,_,h⟩
 go_enter func105,ntmps105;go_wp2_with fail;obtain⟨k,hk⟩:=aP w.heap.size;obtain⟨w2,b⟩:=aP ((w.alloc (.cells #[.slice none 0 0,V 0] 103)).alloc (.cells #[E w.heap.size] 101));have G:O w w2:=by rw[b];exact((aU _ _).alloc _).alloc _
 have ae:w2.heap.size=k+2:=by rw[b,hk];simp
 have F:w2.heap[k]? =some (.cells #[.slice none 0 0,V 0] 103 (0,0)):=by
  rw[b,hk];exact(dG _ _ _ (by simp)).trans (aR _ _)
 have q:w2.cell? ⟨k+1,0,none⟩=some (E k):=by
  have Q:=aR (w.alloc (.cells #[.slice none 0 0,V 0] 103)) (.cells #[E w.heap.size] 101);rw[show(w.alloc (.cells #[.slice none 0 0,V 0] 103)).heap.size=w.heap.size+1 by simp,<-b,<-hk]at Q;exact aC Q 0 _ rfl
 have d:Sk w2 k (k+2) (.slice none 0 0) []:=⟨[],F,jJ _ _ _ _,bQ.nil,rfl,by omega⟩
 have ac:w.heap.size<=k:=by omega
 have R:=J k w2 hk G (by omega) d q;rw[<-b,<-hk];clear b hk;apply R.mono;rintro r w3 ⟨rfl,P,bits,f,l,ab,x⟩;rw[iO]at f;have aa:=x.step.cell (p:=⟨k+1,0,none⟩) q (fun y=>by
  rcases y with y|y
  ·have y:k+1=k:=y;omega
  ·cases y)
 have Y:=hide (Oz k (k+2) P bits w3 f);have X:=hide (show zB z bits/\oI w w3 P bits from⟨l,by
  obtain⟨B,A⟩:=f;refine⟨B,bH A.own (by omega),A.bits,A.len,G.trans' x.step (fun i hi y=> ?_)⟩;rcases y with y|y
  ·omega
  ·cases y⟩)
 obtain⟨va,vn,vc,N⟩:∃a n c,P= .slice a n c:=by
  obtain⟨B,A⟩:=f;obtain⟨_,⟨M,_⟩|⟨g,cap,_,M,_⟩⟩:=A.own
  ·exact⟨_,_,_,M⟩
  ·exact⟨_,_,_,M⟩
 subst N;clear f x d q F R l;go_wp2_with fail;apply Y.o.mono;rintro r w4 ⟨rfl,rfl⟩;go_wp2_with fail;go_ret;exact⟨_,bits,rfl,X.o⟩
end Go.Proofs.YtbpahojchgpdnaaGreatDoor
