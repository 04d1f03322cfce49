import Derived.Test.YtbpahojchgpdnaaGreatDoorMarksA
import Derived.Test.YtbpahojchgpdnaaGreatDoorFixed
set_option maxRecDepth 20000
set_option maxHeartbeats 4000000
set_option linter.all false
namespace Go.dM
variable {i m n s t:Nat} {w:aH} {L:aD}
end Go.dM
namespace Go.Proofs.YtbpahojchgpdnaaGreatDoor
open Go.RowKit Go.Shelf Go.Lib Go.Sort Go.dM Go.Proofs.Tryz
variable {i m n s t:Nat} {w:aH} {L:aD}
def Qc (f1 f2:Nat->Nat)(p:Pc):Prop:=(p.l=0/\1<=f1 p.b)\/(p.l≠0/\∃s x m s2 x2 m2,LenM p.l s x m/\1<=f1 s/\tL p.d s2 x2 m2/\1<=f2 s2)
def Qc.mono {f1 f2 g j:Nat->Nat}{p:Pc}(h:Qc f1 f2 p)(f:∀i,f1 i<=g i)(o:∀i,f2 i<=j i):Qc g j p:=by
 rcases h with⟨a,b⟩|⟨a,s,x,m,l,k,m2,b,c,d,e⟩
 ·exact .inl ⟨a,bB b (f _)⟩
 ·exact .inr ⟨a,s,x,m,l,k,m2,b,bB c (f _),d,bB e (o _)⟩
def bump (f:Nat->Nat)(s i:Nat):Nat:=if i=s then f i+1 else f i
inductive Cnt:List Pc->(Nat->Nat)->(Nat->Nat)->Prop
 |nil:Cnt [] (fun i=>if i=256 then 1 else 0) (fun _=>0)
 |lit (ps:List Pc) (p:Pc) (f1 f2:Nat->Nat) (h:Cnt ps f1 f2) (hl:p.l=0):Cnt (ps++[p]) (bump f1 p.b) f2
 |cpy (ps:List Pc) (p:Pc) (f1 f2:Nat->Nat) (s x m s2 x2 m2:Nat) (h:Cnt ps f1 f2) (hl:p.l≠0) (hM:LenM p.l s x m) (hD:tL p.d s2 x2 m2):Cnt (ps++[p]) (bump f1 s) (bump f2 s2)
structure wP (ps:List Pc)(t:Nat)(f1 f2:Nat->Nat):Prop where
 end_:1<=f1 256
 cnt:∀p∈ps.take t,Qc f1 f2 p
 le1:∀i,f1 i<=t+1
 le2:∀i,f2 i<=t
 is_:Cnt (ps.take t) f1 f2
def JM (f:Nat->Nat)(s i:Nat):f i<=bump f s i:=by unfold bump;split<;>omega
def YQ {f:Nat->Nat}(h:f i<=t):bump f s i<=t+1:=by unfold bump;split<;>omega
def Y3 (f:Nat->Nat)(s:Nat):1<=bump f s s:=by unfold bump;rw[aA rfl];omega
def wP.lit {c:List Pc}{f1 f2:Nat->Nat}{p:Pc}(h:wP c t f1 f2)(hp:c[t]? =some p)(d:p.l=0):wP c (t+1) (bump f1 p.b) f2:=by
 refine⟨bB h.end_ (JM _ _ _),fun q a=> ?_,fun i=>YQ (h.le1 i),fun i=>Nat.le_succ_of_le (h.le2 i),by rw[jE,hp];exact .lit _ p _ _ h.is_ d⟩;rw[jE,hp,iF]at a;rcases a with a|a
 ·exact(h.cnt q a).mono (JM _ _) (fun _=>aS _)
 ·simp only[Option.toList_some,qB]at a;subst a;exact .inl ⟨d,Y3 _ _⟩
def wP.cpy {e:List Pc}{f1 f2:Nat->Nat}{p:Pc}(h:wP e t f1 f2)(hp:e[t]? =some p)(g:p.l≠0){x b c m2:Nat}(j:LenM p.l s x m)(f:tL p.d b c m2):wP e (t+1) (bump f1 s) (bump f2 b):=by
 refine⟨bB h.end_ (JM _ _ _),fun q a=> ?_,fun i=>YQ (h.le1 i),fun i=>YQ (h.le2 i),by rw[jE,hp];exact .cpy _ p _ _ s x m b c m2 h.is_ g j f⟩;rw[jE,hp,iF]at a;rcases a with a|a
 ·exact(h.cnt q a).mono (JM _ _) (JM _ _)
 ·simp only[Option.toList_some,qB]at a;subst a;exact .inr ⟨g,s,x,m,b,c,m2,j,Y3 _ _,f,Y3 _ _⟩
def fB.bump {R:Nat}{f:Nat->Nat}(h:fB w R n f):fB (w.setCell (U R s) (V ((f s:Int)+1))) R n (bump f s):=by
 have e:(f s:Int)+1=((f s+1:Nat):Int):=by omega
 rw[e];refine(bA.set h s _).congr (fun i hi=> ?_);unfold Go.Proofs.YtbpahojchgpdnaaGreatDoor.bump;by_cases a:i=s
 ·subst a;rw[aA rfl,aA rfl]
 ·rw[aB a,aB a]
def fK (f:Nat->Nat)(n:Nat):aD:=(List.range n).map f
def bJ (f:Nat->Nat)(n:Nat):(fK f n).length=n:=by simp[fK]
def sO (f:Nat->Nat)(n i:Nat)(h:i<n):often (fK f n) i=f i:=by unfold often fK;rw[kE,zI h];rfl
def CY {f:Nat->Nat}{c:Nat}(h:∀i,f i<=c)(i:Nat):often (fK f n) i<=c:=by
 by_cases hi:i<n
 ·rw[sO f n i hi];exact h i
 ·unfold often;rw[fZ (by rw[bJ];omega)];simp
def fB.nums {R:Nat}{f:Nat->Nat}(h:fB w R n f):gG w R 0 (fK f n):=fun i hi=>by
 rw[bJ]at hi
 rw[dS,sO f n i hi]
 exact h.cell i hi
def Ii (j off cap:Nat)(J:List Pc)(w:aH)(hW:vJ w j off J)(jl:j<w.heap.size)(bh:J.length<=100000)(aj:∀p∈J,(p.l=0/\p.b<256)\/(3<=p.l/\p.l<=258/\1<=p.d/\p.d<=32768)):Calls prog 164 #[.slice (some ⟨j,off,none⟩) J.length cap] w fun e w'=>∃g1 X f1 f2,e= .returned (.tuple #[.slice (some ⟨g1,0,none⟩) 286 286, .slice (some ⟨X,0,none⟩) 30 30])/\wP J J.length f1 f2/\w.heap.size<=g1/\w.heap.size<=X/\fB w' g1 286 (often (bI (fK f1 286) 15))/\fB w' X 30 (often (bI (fK f2 30) 15))/\O w w':=by
 obtain⟨i0,hi,az,aq,ba⟩:=eD info3;obtain⟨n,hn⟩:=aP J.length;rw[<-hn]at bh|-
 have HN:=hide hn;clear hn;go_enter func164,ntmps164;go_wp2_with (first
  |(at_make;refine sD _ rfl _ _ 57 rfl w.heap.size 3 i0 (.int .i64 0) 1 underlying57 hi az aq .i64 .i64 _ _ 286 rfl rfl rfl rfl (by rw[ba];omega) (by unfold maxLen;omega) (aS _) ?_;intro w1 G ag;have ae:=(aU (fun _=>False) w).grown ag (fun k e=>by cases e);have M:=vY G;have f:=hide M;have F:=hide ae;have ar:=M.lt;have cw:=M.cell 256 (by decide);have fw:=M.free 256;clear G ag M ae)
  |(at_make;refine sD _ rfl _ _ 57 rfl w1.heap.size 3 i0 (.int .i64 0) 1 underlying57 hi az aq .i64 .i64 _ _ 30 rfl rfl rfl rfl (by rw[ba];omega) (by unfold maxLen;omega) (aS _) ?_;intro w2 Q ad;have B:=(aU (fun _=>False) w1).grown ad (fun k e=>by cases e);have ai:=vY Q;have q:=hide ai;have P:=hide B;have bf:=B.cell cw (fun y=>y);have bc:=(f.o.step B (fun y=>y)).free 256;clear Q ad ai B))
 obtain⟨a,S⟩:=aP w.heap.size;obtain⟨g,ay⟩:=aP w1.heap.size;rw[<-S]at f ar|-
 rw[<-ay]at q ar|-
 have bg:wP J 0 (fun i=>if i=256 then 1 else 0) (fun _=>0):=⟨by simp,fun p hp=>by simp at hp,fun i=>by split<;>omega,fun i=>by omega, .nil⟩
 have be:fB (w2.setCell ⟨a,256,none⟩ (.int .i64 1)) a 286 (fun i=>if i=256 then 1 else 0):=by
  refine((f.o.step P.o (fun y=>y)).set 256 (.int .i64 1)).congr (fun i hi=> ?_);by_cases e:i=256
  ·simp[e]
  ·simp[e]
 have bn:fB (w2.setCell ⟨a,256,none⟩ (.int .i64 1)) g 30 (fun _=>0):=q.o.other (by show g≠a;omega) _;have ap:O w (w2.setCell ⟨a,256,none⟩ (.int .i64 1)):=(F.o.trans P.o).aZ (by show w.heap.size<=a;omega) _;have bq:¬j=a:=by omega
 have bz:¬j=g:=by have:=F.o.size;omega
 have al:=hide S;have bx:¬a=g:=by omega
 have bw:¬g=a:=by omega
 have av:w.heap.size<=g:=by omega
 clear S ay f q F P cw fw bf bc;go_loopg [14] n (fun kx u14 wr=>∃(t:Nat) (f1 f2:Nat->Nat),u14= .int .i64 (t:Nat)/\t<=n/\kx=n-t/\Hid (wP J t f1 f2)/\Hid (fB wr a 286 f1)/\Hid (fB wr g 30 f2)/\Hid (O w wr));case atStart=>exact⟨0,_,_,rfl,by omega,rfl,bg,be,bn,ap⟩
 case round=>
  obtain⟨t,f1,f2,rfl,cn,cl,z,f,q,A⟩:=hrel;by_cases ch:t<n
  ·have an:(t:Int)<(n:Int):=(by omega);obtain⟨p,hp⟩:∃p,J[t]? =some p:=⟨_,bV (by have:=HN.o;omega)⟩
   obtain⟨a0,a1,a2⟩:=hW t p hp;have a0:=A.o.cell a0 (fun y=>y);have a1:=A.o.cell a1 (fun y=>y);have a2:=A.o.cell a2 (fun y=>y);have et:((t:Int)).toNat=t:=(by omega);have pt:(0:Int)<=(t:Int):=(by omega);have ct:=f.o.lt;have cg:=q.o.lt;have ca:¬a=wr.heap.size:=(by omega);have bp:¬g=wr.heap.size:=(by omega);have cf:j<wr.heap.size:=(by have:=A.o.size;omega);have bu:¬j=wr.heap.size:=(by omega);obtain⟨d,hd⟩:=aP p.d;obtain⟨R,C⟩:=aP p.l;obtain⟨b,hb⟩:=aP p.b;rw[<-hb]at a0;rw[<-C]at a1;rw[<-hd]at a2;have aj:=aj p (nZ hp);rw[<-hb,<-C,<-hd]at aj;by_cases bb:R=0;focus
    subst bb;have bl:b<256:=(by omega);have cR:=f.o.cell b (by omega);have fR:=f.o.free b;have hf:=z.o.le1 b;have D:=z.o.lit hp C.symm;have I:fB ((wr.setCell ⟨a,b,none⟩ (.int .i64 ((f1 b:Int)+1))).alloc (.cells #[.int .u8 (b:Nat), .int .i64 0, .int .i64 (d:Nat)] 159)) a 286 (bump f1 b):=bA.alloc (fB.bump f.o) _;have H:fB ((wr.setCell ⟨a,b,none⟩ (.int .i64 ((f1 b:Int)+1))).alloc (.cells #[.int .u8 (b:Nat), .int .i64 0, .int .i64 (d:Nat)] 159)) g 30 f2:=bA.alloc (bA.other q.o (by show g≠a;omega) _) _;have ah:O w ((wr.setCell ⟨a,b,none⟩ (.int .i64 ((f1 b:Int)+1))).alloc (.cells #[.int .u8 (b:Nat), .int .i64 0, .int .i64 (d:Nat)] 159)):=(A.o.aZ (by show w.heap.size<=a;have:=al.o;omega) _).alloc _;rw[<-hb]at D;obtain⟨c,hc⟩:=aP (f1 b);rw[<-hc]at cR hf I H ah;have eb:((b:Int)).toNat=b:=(by omega);have pb:(0:Int)<=(b:Int):=(by omega);have qb:(b:Int)<286:=(by omega);have N0:=hide D;have N1:=hide I;have N2:=hide H;have N3:=hide ah;clear D I H ah hc hp hd C hb z f q A
   rotate_left;focus
    have bv:¬(R:Int)=0:=(by omega);have K:3<=R/\R<=258/\1<=d/\d<=32768:=(by omega);have kl:=fun W=>F4 R W K.1 K.2.1;have kd:=fun W=>A8 d W K.2.2.1 K.2.2.2;have KL:=hide kl;have KD:=hide kd;have bk:=hide (aQ hp (aQ hd C));clear kl kd hp hd C hb K;have cs:∀(u v x:aK) (w:aH),(Instr.field 175 (.agg #[u,v,x]) 0).run prog w= .ok u w:=fun _ _ _ _=>by kernel_rfl
    have af:∀(s x m:Nat) (w3:aH),LenM R s x m->O (wr.alloc (.cells #[.int .u8 (b:Nat), .int .i64 (R:Nat), .int .i64 (d:Nat)] 159)) w3->∃c:Nat,c<=200000/\s<286/\w3.cell? ⟨a,s,none⟩=some (.int .i64 (c:Nat))/\w3.frozen? ⟨a,s,none⟩=false/\w3.cell? ⟨wr.heap.size,2,none⟩=some (.int .i64 (d:Nat))/\
      (∀(r x2 m2:Nat) (w4:aH),tL d r x2 m2->O (w3.setCell ⟨a,s,none⟩ (.int .i64 ((c:Int)+1))) w4->∃c2:Nat,c2<=200000/\r<30/\w4.cell? ⟨g,r,none⟩=some (.int .i64 (c2:Nat))/\w4.frozen? ⟨g,r,none⟩=false/\
       Hid (wP J (t+1) (bump f1 s) (bump f2 r))/\Hid (fB (w4.setCell ⟨g,r,none⟩ (.int .i64 ((c2:Int)+1))) a 286 (bump f1 s))/\Hid (fB (w4.setCell ⟨g,r,none⟩ (.int .i64 ((c2:Int)+1))) g 30 (bump f2 r))/\Hid (O w (w4.setCell ⟨g,r,none⟩ (.int .i64 ((c2:Int)+1))))):=fun s x m w3 hM T=>by
     have cq:=hM.bd;have h1:fB w3 a 286 f1:=bA.step (bA.alloc f.o _) T (fun y=>y);have h2:fB w3 g 30 f2:=bA.step (bA.alloc q.o _) T (fun y=>y);have h3:=(A.o.alloc (.cells #[.int .u8 (b:Nat), .int .i64 (R:Nat), .int .i64 (d:Nat)] 159)).trans T;have h4:w3.heap[wr.heap.size]? =some (.cells #[.int .u8 (b:Nat), .int .i64 (R:Nat), .int .i64 (d:Nat)] 159 (0,0)):=T.at_ (aR _ _) (fun y=>y);have co:=z.o.le1 s;refine⟨f1 s,by omega,by omega,bA.cell h1 s (by omega),bA.free h1 s,aC h4 2 _ rfl,fun r x2 m2 w4 hD ak=> ?_⟩;have br:=hD.bd;have g1:fB w4 a 286 (bump f1 s):=bA.step (fB.bump h1) ak (fun y=>y);have X:fB w4 g 30 f2:=bA.step (bA.other h2 (by show g≠a;omega) _) ak (fun y=>y);have S:=al.o;have g3:=(h3.aZ (p:=⟨a,s,none⟩) (by show w.heap.size<=a;omega) (.int .i64 ((f1 s:Int)+1))).trans ak;have bs:=z.o.le2 r;obtain⟨q1,q2,q3⟩:=bk.o;refine⟨f2 r,by omega,by omega,bA.cell X r (by omega),bA.free X r,?_,bA.other g1 (by show a≠g;omega) _,fB.bump X,g3.aZ (p:=⟨g,r,none⟩) av _⟩;rw[q3]at hM;rw[q2]at hD;exact z.o.cpy q1 (by omega) hM hD
    have ac:=hide af;clear af f q;go_wp2_with fail;apply(KL.o _).mono;rintro e w3 ⟨s,x,m,rfl,hM,Z⟩;obtain⟨c,hc,bm,c1,cr,cd,au⟩:=ac.o s x m w3 hM Z;have es:((s:Int)).toNat=s:=(by omega);have cj:(0:Int)<=(s:Int):=(by omega);have ck:(s:Int)<286:=(by omega);have Y:=hide au;clear au hM Z ac;go_wp2_with fail;apply(KD.o _).mono;rintro e w4 ⟨r,x2,m2,rfl,hD,ab⟩;obtain⟨c2,ai,bt,c3,ce,N0,N1,N2,N3⟩:=Y.o r x2 m2 w4 hD ab;have cc:((r:Int)).toNat=r:=(by omega);have cb:(0:Int)<=(r:Int):=(by omega);have bo:(r:Int)<30:=(by omega);clear hD ab Y
   all_goals
    go_wp2_with fail;go_roundg (n-(t+1));case measure=>omega
    case rel=>exact⟨t+1,_,_,by go_num,by omega,rfl,N0,N1,N2,N3⟩
  ·have an:¬(t:Int)<(n:Int):=(by omega);have bj:t=n:=(by omega);subst bj;have ao:=vH a 0 286 15 (fK f1 286) wr (fB.nums f.o) (by rw[bJ];omega) (by rw[bJ];omega) (fun i=>by have:=CY (n:=286) z.o.le1 i;omega) (by omega) (by omega) (by rw[bJ];decide);rw[bJ]at ao;have ax:=fun(W:aH) (hs:O wr W)=>vH g 0 30 15 (fK f2 30) W ((fB.nums q.o).step hs (fun y=>y)) (by rw[bJ];omega) (by rw[bJ];omega) (fun i=>by have:=CY (n:=30) z.o.le2 i;omega) (by omega) (by omega) (by rw[bJ];decide);rw[bJ]at ax;have hz:=A.o.size;go_wp2_with (first
    |(go_at_call_of 183 a;apply ao.mono;rintro e w5 ⟨g1,rfl,cp,am,N⟩)
    |(go_at_call_of 183 g;apply(ax _ N).mono;rintro e w6 ⟨X,rfl,cm,aw,aa⟩))
   go_ret2;exact⟨g1,X,f1,f2,rfl,z.o,by omega,by have:=N.size;omega,bA.step am aa (fun y=>y),aw,(A.o.trans N).trans aa⟩
end Go.Proofs.YtbpahojchgpdnaaGreatDoor
namespace Go.Proofs.YtbpahojchgpdnaaGreatDoor
open Go.RowKit Go.dM Go.Proofs.Tryz
variable {i m n s t:Nat} {w:aH} {L:aD}
def Ve {l:List Pa}(h:∀p∈l,i∉p.s):eY l i=0:=by
 induction l with
 |nil=>rfl
 |cons p l ih=>rw[eY,ih (fun q a=>h q (by simp[a])),List.count_eq_zero.2 (h p (by simp))]
def Bg {f:Nat->Nat}:∀{l:aD} {i:Nat},i∈l->f i<=gT f l
 |[],_,h=>by simp at h
 |x::l,i,h=>by
  rw[gT]
  rcases fE.1 h with rfl|h
  ·omega
  ·have:=Bg (f:=f) h;omega
def ac1 {f:Nat->Nat}(a:∀i,1<=f i):∀{l:aD} {i:Nat},i∈l->2<=l.length->f i+1<=gT f l
 |[],_,h,_=>by simp at h
 |[x],_,_,h2=>by simp at h2
 |x::y::l,i,h,_=>by
  rw[gT]
  rcases fE.1 h with rfl|h
  ·rw[gT];have:=a y;omega
  ·have:=Bg (f:=f) h;have:=a x;omega
def MG {k:Nat}(hi:i∉comes L L.length):often (bI L k) i=0:=by
 by_cases h:i<L.length
 ·rw[lG L k i h];by_cases b:(comes L L.length).length<2
  ·rw[aA b,aB hi]
  ·rw[aB b];refine Ve (fun p hp a=>hi ?_);exact LA (q:=fun i=>i∈comes L L.length) (fun p hp j c=>by
    simp only[sU]at hp;obtain⟨x,d,rfl⟩:=hp;simp only[mk1,qB]at c;subst c;exact d) k p (zN hp) i a
 ·unfold often;rw[fZ (by rw[cK];omega)];rfl
def wZ {k:Nat}(g:1<=k)(hs:L.length<=2^k)(hi:i∈comes L L.length):1<=often (bI L k) i:=by
 have b:=((oQ L _ i).1 hi).1;rw[lG L k i b];by_cases d:(comes L L.length).length<2
 ·rw[aA d,aA hi];omega
 ·rw[aB d];have j:=qZ L L.length;have c:=(yA (often L) (comes L L.length) (tO _ _) (by omega) k (by omega)).2.2;have e:=ac1 (f:=fun i=>2^(k-eY ((qP ((comes L L.length).map (mk1 (often L))) k).take (2*(comes L L.length).length-2)) i)) (fun i=>Nat.one_le_two_pow) hi (by omega);rw[c]at e;rcases DZ (eY ((qP ((comes L L.length).map (mk1 (often L))) k).take (2*(comes L L.length).length-2)) i)with a|a
  ·simp only[a,Nat.sub_zero]at e;omega
  ·exact a
def WU (L:aD)(k:Nat)(hk:1<=k)(hs:L.length<=2^k):∀n,n<=L.length->iD (bI L k) n=gT (fun i=>32768/2^often (bI L k) i) (comes L n)/\eG (bI L k) n=(comes L n).length
 |0,_=>⟨rfl,rfl⟩
 |n+1,hn=>by
  obtain⟨c,g⟩:=WU L k hk hs n (by omega)
  have e:(bI L k)[n]?.getD 0=often (bI L k) n:=rfl
  rw[iD,eG,e,QU,c,g]
  by_cases b:0<often L n
  ·have hp:=wZ (i:=n) hk hs ((oQ L _ n).2 ⟨by omega,b⟩)
   rw[aA b,aA (by omega),aA (by omega)]
   have a:∀(f:Nat->Nat) (l:aD) (x:Nat),gT f (l++[x])=gT f l+f x:=fun f l x=>by
    induction l with
    |nil=>simp[gT]
    |cons y l ih=>rw[jZ,gT,gT,ih];omega
   exact⟨by rw[a],by simp⟩
  ·have d:often (bI L k) n=0:=MG (fun h=>b ((oQ L _ n).1 h).2)
   rw[aB b,d,aB (by omega),aB (by omega)]
   exact⟨rfl,rfl⟩
def wF {f g:Nat->Nat}:∀{l:aD},(∀i∈l,f i=g i)->gT f l=gT g l
 |[],_=>rfl
 |x::l,h=>by rw[gT,gT,h x (by simp),wF (fun i hi=>h i (by simp[hi]))]
def Ce {f:Nat->Nat}{c:Nat}:∀l:aD,gT (fun i=>c*f i) l=c*gT f l
 |[]=>rfl
 |x::l=>by rw[gT,gT,Ce l,Nat.mul_add]
def zS (L:aD)(k:Nat)(hk:1<=k)(l:k<=15)(hs:L.length<=2^k)(p:1<=(comes L L.length).length):fF (bI L k)=true:=by
 obtain⟨f,j⟩:=WU L k hk hs L.length (aS _);have o:=qZ L L.length;unfold fF;rw[cK,f,j];by_cases d:(comes L L.length).length<2
 ·have g:(comes L L.length).length=1:=by omega
  match hx:comes L L.length,g with
  |[x],_=>
   have a:x∈comes L L.length:=(by rw[hx];simp);have e:often (bI L k) x=1:=(by rw[lG L k x ((oQ L _ x).1 a).1,aA d,aA a]);simp[gT,e]
 ·have b:=(yA (often L) (comes L L.length) (tO _ _) (by omega) k (by omega)).2.2;have c:=(yA (often L) (comes L L.length) (tO _ _) (by omega) k (by omega)).2.1;have e:gT (fun i=>32768/2^often (bI L k) i) (comes L L.length)=2^(15-k)*gT (fun i=>2^(k-eY ((qP ((comes L L.length).map (mk1 (often L))) k).take (2*(comes L L.length).length-2)) i)) (comes L L.length):=by
   rw[<-Ce];refine wF (fun i hi=> ?_);rw[lG L k i ((oQ L _ i).1 hi).1,aB d];have q:=c i;rw[show(32768:Nat)=2^15 from rfl,Nat.pow_div (by omega) (by omega),<-oZ];congr 1;omega
  rw[e,b,<-oZ,show 15-k+k=15 by omega];simp
open Go.Shelf Go.Lib Go.Sort
def oN (F:aD)(c:Nat):List Bool:=(List.range c).flatMap fun i=>numBits (often F (bP[i]?.getD 0)) 3
def kN (F:aD)(l:List Mk):List Bool:=l.flatMap fun k=>dN F k.s++numBits k.x k.m
def jL (a b c:Nat)(F:aD)(l:List Mk):List Bool:=numBits (a-257) 5++numBits (b-1) 5++numBits (c-4) 4++oN F c++kN F l
structure M8 (L1 L2:aD)(a b c:Nat)(F:aD)(l:List Mk):Prop where
 a1:257<=a
 a2:a<=286
 az:∀i,a<=i->often L1 i=0
 b1:1<=b
 b2:b<=30
 bz:∀i,b<=i->often L2 i=0
 tells:gH (L1.take a++L2.take b) 0 l (a+b)
 fs:F=bI (FK l) 7
 c1:4<=c
 c2:c<=19
 cz:∀i,c<=i->i<19->often F (bP[i]?.getD 0)=0
 last:(257<a->often L1 (a-1)≠0)/\(1<b->often L2 (b-1)≠0)/\(4<c->often F (bP[c-1]?.getD 0)≠0)
def gG.take {g off:Nat}(h:gG w g off L)(a:Nat):gG w g off (L.take a):=fun i hi=>by
 rw[dF]at hi
 rw[h i (by omega)]
 unfold often
 rw[jQ (by omega)]
def EU (L:aD)(a i c:Nat)(h:∀i,often L i<=c):often (L.take a) i<=c:=by
 have:=h i;unfold often at*;by_cases hi:i<a
 ·rw[jQ hi];exact this
 ·rw[fZ (by rw[dF];omega)];simp
def NT (L M:aD)(i c:Nat)(h:∀i,often L i<=c)(a:∀i,often M i<=c):often (L++M) i<=c:=by
 unfold often at*;by_cases hi:i<L.length
 ·rw[jA hi];exact h i
 ·rw[kZ (by omega)];exact a _
def yU (F:aD)(c:Nat):oN F (c+1)=oN F c++numBits (often F (bP[c]?.getD 0)) 3:=by simp[oN,FZ]
def kJ (F:aD)(c:Nat):(oN F c).length=3*c:=by
 induction c with
 |zero=>rfl
 |succ c ih=>rw[yU,aN,ih,aM];omega
def D9 {l:List Mk}{k:Mk}(hk:k∈l)(hs:k.s<19):fF (bI (FK l) 7)=true/\1<=often (bI (FK l) 7) k.s:=by
 have a:k.s∈comes (FK l) (FK l).length:=by
  rw[oQ,fI,TM l k.s hs];exact⟨hs,List.count_pos_iff.2 (O5 hk)⟩
 have b:(FK l).length<=2^7:=by rw[fI];decide
 exact⟨zS _ 7 (by omega) (by omega) b (List.length_pos_of_mem a),wZ (by omega) b a⟩
def Ea {F:aD}{l:List Mk}{k:Mk}(h:l[i]? =some k):kN F (l.take (i+1))=kN F (l.take i)++(dN F k.s++numBits k.x k.m):=by unfold kN;rw[jE,h,List.flatMap_append];simp
def FY {F:aD}(a:∀j:Nat,F[j]?.getD 0<=15):∀l:List Mk,(∀k∈l,k.m<=7)->(kN F l).length<=22*l.length
 |[],_=>by simp[kN]
 |k::l,h=>by
  have d:=FY a l (fun q b=>h q (by simp[b]))
  have f:=h k (by simp)
  have c:=a k.s
  have e:kN F (k::l)=dN F k.s++numBits k.x k.m++kN F l:=by simp[kN]
  rw[e,aN,aN,fP,aM,iN]
  omega
structure Plan (w w7:aH)(L1 L2:aD)(a b c gm cm gF gO:Nat)(F:aD)(l:List Mk):Prop where
 cod:M8 L1 L2 a b c F l
 mks:GU w7 gm l
 gml:w.heap.size<=gm/\gm<w7.heap.size
 fl:fB w7 gF 19 (often F)
 gFl:w.heap.size<=gF
 od:fB w7 gO 19 (fun i=>often F (bP[i]?.getD 0))
 gOl:w.heap.size<=gO
 st:O w w7
 len:l.length<=1000
def RY (k base g1 g2:Nat)(v:aK)(bs:List Bool)(L1 L2:aD)(w:aH)(h:Sk w k base v bs)(n1:gG w g1 0 L1)(n2:gG w g2 0 L2)(ag:L1.length=286)(ax:L2.length=30)(ar:∀i,often L1 i<=15)(dp:∀i,often L2 i<=15)(hO:bL w)(hl:bs.length<60000000000000)(em:base<=w.heap.size):Calls prog 165 #[E k, .slice (some (U g1 0)) 286 286, .slice (some (U g2 0)) 30 30] w fun e w'=>e= .returned (.tuple #[])/\∃v' a b c F l,Sk w' k base v' (bs++jL a b c F l)/\M8 L1 L2 a b c F l/\dH k w v w' v':=by
 have cb:=YP g1 0 286 257 L1 w n1 (by omega) (by omega) (by omega);rw[ag]at cb;have dk:=hide cb;have HH:=hide h;have cv:=hide n1;have HO:=hide hO;have r:=hide (aQ ag (aQ ax (aQ ar dp)));clear cb h n1 hO ag ax ar dp;go_enter func165,ntmps165;go_wp2_with fail;apply dk.o.mono;rintro e w1 ⟨a,rfl,a1,a2,az,am,bo⟩;have cl:=YP g2 0 30 1 L2 w1 (n2.step bo (fun y=>y)) (by have:=r.o.2.1;omega) (by have:=r.o.2.1;omega) (by have:=r.o.2.1;omega);rw[r.o.2.1]at cl;have ee:=hide cl;have cr:=hide az;clear cl az dk;go_wp2_with fail;apply ee.o.mono;rintro e w2 ⟨b,rfl,b1,b2,bz,bm,bl⟩;have dz:=hide bz;have dg:=hide bm;have J:=hide (bo.trans bl);clear bl bz bm ee;go_wp2_with fail;have ag:=r.o.1;have ax:=r.o.2.1;have l1:(L1.take a).length=a:=by rw[dF];omega
 have l2:(L2.take b).length=b:=by rw[dF];omega
 have ao:=Qq g1 286 g2 30 (L1.take a) (L2.take b) w2 57 ((cv.o.step J.o (fun y=>y)).take a) ((n2.step J.o (fun y=>y)).take b) (by omega) (by omega);rw[l1,l2]at ao;apply ao.mono;rintro e w3 ⟨c3,rfl,fx,fe,ce,bh⟩;obtain⟨row,z⟩:=aP (L1.take a++L2.take b);rw[<-z]at ce;have cg:row.length=a+b:=by rw[z,aN,l1,l2]
 have bq:∀i,often row i<=15:=fun i=>by
  rw[z];exact NT _ _ _ _ (fun i=>EU _ _ _ _ r.o.2.2.1) (fun i=>EU _ _ _ _ r.o.2.2.2)
 have cj:=J.o.trans bh;have bw:=Br (w2.heap.size+1) 0 c3 row w3 ce (by omega) (by omega) bq (HO.o.step cj (fun _ _ y=>y));rw[cg]at bw;have da:=hide bw;have bb:=hide (aQ z cg);clear ao ce bh z bq bw ag ax l1 l2 cg J;go_wp2_with fail;apply da.o.mono;rintro e w4 ⟨v4,l,rfl,aa,P⟩;have er:=P.count;have bc:=P.sym;have ds:1<=l.length:=by
  rcases DZ l.length with h0|h0
  ·have M:=kP h0;rw[M]at P;have:=P.nil_eq;omega
  ·exact h0
 obtain⟨gm,cm,eq⟩:∃gm cm,v4= .slice (some (U gm 0)) l.length cm:=by
  obtain⟨_,⟨_,fv⟩|⟨g,cap,_,hv,_⟩⟩:=aa.row
  ·omega
  ·exact⟨g,cap,hv⟩
 subst eq;have ap:=GU.D6 aa.row;have br:=aa.row.lt gm rfl;have ed:=NZ gm cm l w4 ap br.2 (by omega) (fun k hk=>(bc k hk).1);have dl:=hide (aQ ap br);have cs:=hide P;have ay:=hide (cj.trans aa.st);have fn:=cj.size;obtain⟨N,hN⟩:=aP l.length;rw[<-hN]at ed er ds|-
 have av:=hide hN;clear ap P aa bc hN da;go_wp2_with fail;apply ed.mono;rintro e w5 ⟨gF,rfl,fq,u,aq⟩;obtain⟨F,hF⟩:=aP (bI (FK l) 7);rw[<-hF]at u;have X:F.length=19:=by rw[hF,cK,fI]
 have ej:gG w5 gF 0 F:=fun i hi=>by
  rw[dS];exact bA.cell u i (by omega)
 have ev:=Ni gF 0 19 F w5 ej X (HO.o.step (ay.o.trans aq) (fun _ _ y=>y)) u.lt;have dx:=hide ev;have de:=hide u;have dj:=hide (aQ hF X);have fg:=ay.o.size;go_wp2_with fail;apply dx.o.mono;rintro e w6 ⟨gO,rfl,fu,ca,ai⟩;have cp:=YP gO 0 19 4 (fK (fun i=>often F (bP[i]?.getD 0)) 19) w6 (fB.nums ca) (by rw[bJ];omega) (by rw[bJ];omega) (by rw[bJ];omega);rw[bJ]at cp;have dq:=hide cp;have cx:=hide ca;have dr:=hide (aq.trans ai);have dm:=hide ai;have fp:=aq.size;clear cp ca ai dx;go_wp2_with fail;apply dq.o.mono;rintro e w7 ⟨c,rfl,c1,c2,cz,dw,I⟩;have d:Plan w w7 L1 L2 a b c gm cm gF gO F l:=by
  obtain⟨ap,br⟩:=dl.o;obtain⟨hF,X⟩:=dj.o;have cc:=dr.o.trans I;refine⟨⟨a1,a2,cr.o,b1,b2,dz.o,?_,hF,c1,c2,fun i hi eu=> ?_,am,dg.o,fun M=>by have h8:=dw M;rw[sO _ _ _ (by omega)]at h8;exact h8⟩,ap.step cc (fun y=>y),⟨by omega,by have:=cc.size;omega⟩,?_,by omega,bA.step cx.o I (fun y=>y),by omega,ay.o.trans cc,by have:=av.o;omega⟩
  ·obtain⟨en,fk⟩:=bb.o;have:=cs.o;rw[en]at this;exact this
  ·have M:=cz i hi;rw[sO _ _ _ eu]at M;exact M
  ·exact bA.step (bA.step de.o dm.o (fun y=>y)) I (fun y=>y)
 clear cz dw I dm dq cx dr de dj cs dl ay HO bb cv r cr dz dg;have bj:=HH.o.step0 d.st;have dy:dH k w v w7 v:=(dH.refl k w v).step0 d.st;have ft:=d.st.size;have ea:(a:Int)-257=((a-257:Nat):Int):=by omega
 have eb:(b:Int)-1=((b-1:Nat):Int):=by omega
 have ec:(c:Int)-4=((c-4:Nat):Int):=by omega
 have k1:=IG k base (a-257) 5 v bs w7 bj (by omega) (by omega) (by omega) (by omega);rw[<-ea]at k1;have K1:=hide k1;have EB:=hide eb;have EC:=hide ec;have oO:=HH.o.off d.gOl;have oF:=HH.o.off d.gFl;have oM:=HH.o.off d.gml.1;have ct:=hide (aQ oO (aQ oF oM));clear ea eb ec k1 bj HH oO oF oM;go_wp2_with fail;apply K1.o.mono;rintro e w8 ⟨rfl,v8,ba,al⟩;have fj:=al.step.size;have k2:=IG k base (b-1) 5 v8 (bs++numBits (a-257) 5) w8 ba (by omega) (by omega) (by simp[aM];omega) (by omega);rw[<-EB.o]at k2;have dv:=hide al;clear ba al K1 EB;go_wp2_with fail;apply k2.mono;rintro e w9 ⟨rfl,v9,cu,bf⟩;have k3:=IG k base (c-4) 4 v9 (bs++numBits (a-257) 5++numBits (b-1) 5) w9 cu (by omega) (by omega) (by simp[aM];omega) (by have:=bf.step.size;omega);rw[<-EC.o]at k3;have K3:=hide k3;have bn:=hide (dv.o.trans bf);go_wp2_with fail;apply K3.o.mono;rintro e eo ⟨rfl,cy,C,ad⟩;have ae:=bn.o.trans ad;obtain⟨W,G⟩:=aP (bs++numBits (a-257) 5++numBits (b-1) 5++numBits (c-4) 4);rw[<-G]at C;have ex:W.length=bs.length+14:=by rw[G];simp[aM]
 have f:=hide (show Sk eo k base cy (W++oN F 0) by simpa[oN]using C);have af:=hide ae;have eh:=hide G;clear C ad K3 bn ae G;go_wp2_with fail;go_loopg [45] c (fun kx u45 wr=>∃(i:Nat) (v1:aK),u45=V (i:Nat)/\i<=c/\kx=c-i/\Hid (Sk wr k base v1 (W++oN F i))/\Hid (dH k w7 v wr v1));case atStart=>exact⟨0,cy,rfl,by omega,rfl,f,af⟩
 case round=>
  clear f af;obtain⟨i,v1,rfl,fr,fm,f,B⟩:=hrel;obtain⟨oO,oF,oM⟩:=ct.o;have fo:=B.o.step.size;by_cases fi:i<c
  ·have df:(i:Int)<(c:Int):=(by omega);have cO:=bA.cell (bA.wrt d.od oO B.o) i (by omega);dsimp only at cO;have S:often F (bP[i]?.getD 0)<=7:=by
    have au:=d.cod;rw[au.fs];exact rV _ _ _ (by omega) (by rw[fI];decide)
   obtain⟨y,hy⟩:=aP (often F (bP[i]?.getD 0));rw[<-hy]at cO S;have kk:=IG k base y 3 v1 (W++oN F i) wr f.o (by omega) (by omega) (by rw[aN,kJ];omega) (by omega);have ei:((i:Int)).toNat=i:=(by omega);have pi:(0:Int)<=(i:Int):=(by omega);have HY:=hide hy;clear hy oO oF oM f;go_wp2_with (go_at_call 93;apply kk.mono;rintro e el ⟨rfl,dt,bt,bv⟩);go_roundg (c-(i+1));case measure=>omega
   case rel=>exact⟨i+1,dt,by go_num,by omega,rfl,(by rw[yU,<-dB,<-HY.o];exact bt:Sk el k base dt (W++oN F (i+1))),B.o.trans bv⟩
  ·have df:¬(i:Int)<(c:Int):=(by omega);have dh:i=c:=(by omega);subst dh;have X:F.length=19:=(by rw[d.cod.fs,cK,fI]);have S:∀j:Nat,F[j]?.getD 0<=15:=fun j=>by
    have M:often F j<=7:=by
     rw[d.cod.fs];exact rV _ _ _ (by omega) (by rw[fI];decide)
    have e9:F[j]?.getD 0=often F j:=rfl;omega
   have u:=bA.wrt d.fl oF B.o;have bp:Ints wr gF 0 F:=⟨fun j hj=>by rw[dS];exact bA.cell u j (by omega),S,by omega⟩
   have be:∀x∈l,iB F x.s:=fun x hx=>by
    have au:=d.cod;have fd:=(au.tells.sym x hx).1;have K:=D9 hx (by omega);rw[<-au.fs]at K;refine qD S K.1 (by omega) ?_;exact K.2
   obtain⟨x0,bx⟩:∃x,x∈l:=by
    have hN:=av.o;cases l with
    |nil=>simp at hN;omega
    |cons x l=>exact⟨x,by simp⟩
   have bg:fF F=true:=by
    have K:=D9 bx (by have:=(d.cod.tells.sym x0 bx).1;omega);rw[<-d.cod.fs]at K;exact K.1
   have kb:=FE gF 0 19 F wr bp u.lt (wB S bg) (by omega);rw[X]at kb;have KB:=hide kb;have dn:=hide be;clear kb be S u bp bg bx oO oF oM;go_wp2_with fail;apply KB.o.mono;rintro e aw ⟨gb,rfl,ep,db,p⟩;have ac:lS aw gb F:=(by unfold lS;rw[X];exact db);obtain⟨oO,oF,oM⟩:=ct.o;have Q:=oM.wrt d.gml.2 B.o;have T:=f.o.off ep;have A:GU aw gm l:=(d.mks.step B.o.step (fun y=>y.elim oM.1 oM.2)).step p (fun y=>y);have D:=f.o.step0 p;have aj:=B.o.step0 p;obtain⟨R,H⟩:=aP (W++oN F i);rw[<-H]at D;have ey:R.length<=bs.length+100:=(by rw[H,aN,kJ];omega);have fa:=p.size;have fc:=d.gml.2;have dc:=hide H;have eg:=hide (aQ ac (aQ A (aQ Q T)));have an:=hide (show Sk aw k base v1 (R++kN F (l.take 0)) by simpa[kN]using D);have cn:=hide aj;clear ac oO oF oM Q T A D aj H db p KB f B;go_wp2_with fail;go_loopg [57] N (fun kx u57 wq=>∃(t:Nat) (v2:aK),u57=V t/\t<=N/\kx=N-t/\Hid (Sk wq k base v2 (R++kN F (l.take t)))/\Hid (dH k aw v1 wq v2));case atStart=>exact⟨0,v1,rfl,by omega,rfl,an,dH.refl _ _ _⟩
   case round=>
    clear an;obtain⟨t,v2,rfl,ff,fb,f,ab⟩:=hrel;have fw:=ab.o.step.size;by_cases ez:t<N
    ·have cd:(t:Int)<(N:Int):=(by omega);obtain⟨x,hx⟩:∃x,l[t]? =some x:=⟨_,bV (by have:=av.o;omega)⟩
     have co:=nZ hx;obtain⟨ac,A,Q,T⟩:=eg.o;obtain⟨m0,m1,m2⟩:=A.step ab.o.step (fun y=>y.elim Q.1 Q.2) t x hx;have Z:=dn.o x co;obtain⟨q1,q2,q3⟩:=d.cod.tells.sym x co;have ck:lS wr gb F:=ab.o.step.at_ ac (fun y=>y.elim T.1 T.2);obtain⟨o9,cw⟩:∃o:Obj,o= .cells #[V x.s,V x.x,V x.m] 175:=⟨_,rfl⟩
     have ak:=lS.cell (show lS (wr.alloc o9) gb F from(dG _ _ _ (aO ck)).trans ck) Z;have ek:(kN F (l.take t)).length<=22*t:=by
      have ar:∀j:Nat,F[j]?.getD 0<=15:=fun j=>by
       have M:often F j<=7:=by
        rw[d.cod.fs];exact rV _ _ _ (by omega) (by rw[fI];decide)
       have e9:F[j]?.getD 0=often F j:=rfl;omega
      have M:=FY ar (l.take t) (fun q hq=>(d.cod.tells.sym q (zN hq)).2.2);rw[dF]at M;omega
     have bk:x.x<1000000:=by
      have:2^x.m<=2^7:=gL (by omega) q3;have e7:(2:Nat)^7=128:=rfl;omega
     have kk:=yY k base gb 0 19 19 x.s (Go.dM.keyOf F x.s) (F[x.s]?.getD 0) x.x x.m v2 (R++kN F (l.take t)) (wr.alloc o9) (f.o.step0 ((aU _ _).alloc _)) ak (by omega) Z.lo Z.hi Z.le bk (by omega) (by rw[aN];omega) (by simp;omega);rw[cw]at kk;have ah:R++kN F (l.take t)++nT (Go.dM.keyOf F x.s-2^(F[x.s]?.getD 0)) (F[x.s]?.getD 0)++numBits x.x x.m=R++kN F (l.take (t+1)):=by
      rw[Ea hx];unfold dN;simp
     rw[ah]at kk;have et:((t:Int)).toNat=t:=(by omega);have pt:(0:Int)<=(t:Int):=(by omega);obtain⟨xs,cq⟩:=aP x.s;obtain⟨xx,bu⟩:=aP x.x;obtain⟨xm,Y⟩:=aP x.m;rw[<-cq,<-bu,<-Y]at kk;rw[<-cq]at m0;rw[<-bu]at m1;rw[<-Y]at m2;have ew:gm<wr.heap.size:=(by omega);clear ah hx co ac A Q T Z q1 q2 q3 ck cw ak ek bk cq bu Y f;go_wp2_with (go_at_call 129;apply kk.mono;rintro e fh ⟨rfl,es,ch,cf⟩);go_roundg (N-(t+1));case measure=>omega
     case rel=>exact⟨t+1,es,by go_num,by omega,rfl,ch,ab.o.trans ((dH.refl k wr v2).alloc _ |>.trans cf)⟩
    ·have cd:¬(t:Int)<(N:Int):=(by omega);have dd:t=N:=(by omega);subst dd;have ef:Sk wr k base v2 (bs++jL a b i F l):=by
      have M:=f.o;rw[av.o,sI,dc.o,eh.o]at M;unfold jL;simpa using M
     have du:=hide ef;go_wp2_with fail;go_end0;exact⟨rfl,v2,a,b,i,F,l,du.o,d.cod,(dy.trans cn.o).trans ab.o⟩
def aa1 (w:aH)(ps:List Pc)(e:Ending)(w':aH):Prop:=∃g1 g2 f1 f2,e= .returned (.tuple #[.slice (some (U g1 0)) 286 286, .slice (some (U g2 0)) 30 30])/\wP ps ps.length f1 f2/\
      w.heap.size<=g1/\w.heap.size<=g2/\fB w' g1 286 (often (bI (fK f1 286) 15))/\fB w' g2 30 (often (bI (fK f2 30) 15))/\O w w'
def Kc (w:aH):Calls prog 164 #[.slice none 0 0] w (aa1 w []):=by
 unfold aa1;obtain⟨i0,hi,X,K,Z⟩:=eD info3;go_enter func164,ntmps164;go_wp2_with (first
  |(at_make;refine sD _ rfl _ _ 57 rfl w.heap.size 3 i0 (V 0) 1 underlying57 hi X K .i64 .i64 _ _ 286 rfl rfl rfl rfl (by rw[Z];omega) (by unfold maxLen;omega) (aS _) ?_;intro w1 c x;have v:=(aU (fun _=>False) w).grown x (fun k e=>by cases e);have d:=vY c;have b:=hide d;have A:=hide v;have M:=d.lt;have cw:=d.cell 256 (by decide);have fw:=d.free 256;clear c x d v)
  |(at_make;refine sD _ rfl _ _ 57 rfl w1.heap.size 3 i0 (V 0) 1 underlying57 hi X K .i64 .i64 _ _ 30 rfl rfl rfl rfl (by rw[Z];omega) (by unfold maxLen;omega) (aS _) ?_;intro w2 l u;have a:=(aU (fun _=>False) w1).grown u (fun k e=>by cases e);have I:=vY l;have f:=hide I;have j:=hide a;have ab:=a.cell cw (fun y=>y);have ac:=(b.o.step a (fun y=>y)).free 256;clear l u I a))
 obtain⟨q,C⟩:=aP w.heap.size;obtain⟨Y,N⟩:=aP w1.heap.size;rw[<-C]at b M|-
 rw[<-N]at f M|-
 have B:wP [] 0 (fun i=>if i=256 then 1 else 0) (fun _=>0):=⟨by simp,fun p hp=>by simp at hp,fun i=>by split<;>omega,fun i=>by omega, .nil⟩
 have J:fB (w2.setCell (U q 256) (V 1)) q 286 (fun i=>if i=256 then 1 else 0):=by
  refine((b.o.step j.o (fun y=>y)).set 256 (V 1)).congr (fun i hi=> ?_);by_cases e:i=256
  ·simp[e]
  ·simp[e]
 have Q:fB (w2.setCell (U q 256) (V 1)) Y 30 (fun _=>0):=f.o.other (by show Y≠q;omega) _;have r:O w (w2.setCell (U q 256) (V 1)):=(A.o.trans j.o).aZ (by show w.heap.size<=q;omega) _;have H:=hide J;have R:=hide Q;have G:=hide r;have ae:=hide C;clear J Q r C N b f A j cw fw ab ac;go_loopg [14] 0 (fun kx u14 wr=>u14=V 0/\Hid (fB wr q 286 (fun i=>if i=256 then 1 else 0))/\Hid (fB wr Y 30 (fun _=>0))/\Hid (O w wr));case atStart=>exact⟨rfl,H,R,G⟩
 case round=>
  clear H R G;obtain⟨rfl,b,f,T⟩:=hrel;have F:=vH q 0 286 15 (fK (fun i=>if i=256 then 1 else 0) 286) wr (fB.nums b.o) (by rw[bJ];omega) (by rw[bJ];omega) (fun i=>by have:=CY (n:=286) B.le1 i;omega) (by omega) (by omega) (by rw[bJ];decide);rw[bJ]at F;have D:=fun(W:aH) (hs:O wr W)=>vH Y 0 30 15 (fK (fun _=>0) 30) W ((fB.nums f.o).step hs (fun y=>y)) (by rw[bJ];omega) (by rw[bJ];omega) (fun i=>by have:=CY (n:=30) B.le2 i;omega) (by omega) (by omega) (by rw[bJ];decide);rw[bJ]at D;have ad:=hide F;have aa:=hide D;have hz:=T.o.size;clear F D;go_wp2_with (first
   |(go_at_call_of 183 q;apply ad.o.mono;rintro e w5 ⟨g1,rfl,af,P,g⟩)
   |(go_at_call_of 183 Y;apply(aa.o _ g).mono;rintro e w6 ⟨g2,rfl,ag,S,z⟩))
  go_ret2;exact⟨g1,g2,_,_,rfl,B,by omega,by have:=g.size;omega,bA.step P z (fun y=>y),S,(T.o.trans g).trans z⟩
def BP (p:Pc):Prop:=(p.l=0/\p.b<256)\/(3<=p.l/\p.l<=258/\1<=p.d/\p.d<=32768)
def Vj (d:aK)(a:List Pc)(w:aH)(hp:zW w d a)(c:a.length<=100000)(b:∀p∈a,BP p):Calls prog 164 #[d] w (aa1 w a):=by
 rcases hp with⟨rfl,rfl⟩|⟨j,off,cap,rfl,f,e⟩
 ·exact Kc w
 ·exact Ii j off cap a w e f c b
structure Fits (ps:List Pc)(L1 L2:aD):Prop where
 l1:L1.length=286
 l2:L2.length=30
 le1:∀i,often L1 i<=15
 le2:∀i,often L2 i<=15
 aE0:fF L1=true
 aG9:(∀i,often L2 i=0)\/fF L2=true
 end_:iB L1 256
 need:∀p∈ps,Needs L1 L2 p/\(p.l≠0->fF L2=true)
 is_:∃f1 f2,Cnt ps f1 f2/\L1=bI (fK f1 286) 15/\L2=bI (fK f2 30) 15
def iJ (L:aD)(i:Nat):L[i]?.getD 0=often L i:=rfl
def wP.fits {k:List Pc}{f1 f2:Nat->Nat}(h:wP k k.length f1 f2)(u:∀p∈k,BP p):Fits k (bI (fK f1 286) 15) (bI (fK f2 30) 15):=by
 have o:(fK f1 286).length=286:=bJ _ _;have q:(fK f2 30).length=30:=bJ _ _;have b1:(fK f1 286).length<=2^15:=by rw[o];decide
 have b2:(fK f2 30).length<=2^15:=by rw[q];decide
 have c1:∀s,s<286->1<=f1 s->s∈comes (fK f1 286) (fK f1 286).length:=fun s hs f=>by
  rw[oQ,o,sO _ _ _ hs];exact⟨hs,f⟩
 have c2:∀s,s<30->1<=f2 s->s∈comes (fK f2 30) (fK f2 30).length:=fun s hs f=>by
  rw[oQ,q,sO _ _ _ hs];exact⟨hs,f⟩
 have le1:∀i,often (bI (fK f1 286) 15) i<=15:=fun i=>rV _ _ _ (by omega) b1;have le2:∀i,often (bI (fK f2 30) 15) i<=15:=fun i=>rV _ _ _ (by omega) b2;have m1:fF (bI (fK f1 286) 15)=true:=zS _ 15 (by omega) (by omega) b1 (List.length_pos_of_mem (c1 256 (by omega) h.end_));have m2:∀s,s<30->1<=f2 s->fF (bI (fK f2 30) 15)=true:=fun s hs f=>zS _ 15 (by omega) (by omega) b2 (List.length_pos_of_mem (c2 s hs f));have k1:∀s,s<286->1<=f1 s->iB (bI (fK f1 286) 15) s:=fun s hs f=>qD le1 m1 (by rw[cK,o];exact hs) (wZ (by omega) b1 (c1 s hs f));have k2:∀s,s<30->1<=f2 s->iB (bI (fK f2 30) 15) s:=fun s hs f=>qD le2 (m2 s hs f) (by rw[cK,q];exact hs) (wZ (by omega) b2 (c2 s hs f));refine⟨by rw[cK,o],by rw[cK,q],le1,le2,m1,?_,k1 256 (by omega) h.end_,fun p hp=> ?_,f1,f2,by have D:=h.is_;rw[sI]at D;exact D,rfl,rfl⟩
 ·rcases DZ (comes (fK f2 30) (fK f2 30).length).length with r|r
  ·refine .inl (fun i=>MG (fun hi=> ?_));rw[kP r]at hi;simp at hi
  ·exact .inr (zS _ 15 (by omega) (by omega) b2 r)
 ·have G:=h.cnt p (by rw[sI];exact hp);have j:=u p hp;rcases G with⟨a,b⟩|⟨a,s,x,m,A,H,F,b,c,d,e⟩
  ·have C:p.b<256:=by rcases j with j|j<;>omega
   exact⟨.inl ⟨a,C,k1 p.b (by omega) b⟩,fun y=>absurd a y⟩
  ·have g:3<=p.l/\p.l<=258/\1<=p.d/\p.d<=32768:=by rcases j with j|j<;>omega
   have C:=b.bd;have B:=d.bd;refine⟨.inr ⟨g.1,g.2.1,g.2.2.1,g.2.2.2,fun s' x' v z=> ?_,fun s' x' v z=> ?_⟩,fun _=>m2 A B.2.2 e⟩
   ·rw[<-TF b z];exact k1 s (by omega) c
   ·rw[<-LG d z];exact k2 A B.2.2 e
def BJ (last:Bool)(ps:List Pc)(tb:List Bool):Prop:=∃L1 L2 a b c F l bits,Fits ps L1 L2/\M8 L1 L2 a b c F l/\iX L1 L2 ps bits/\bits.length<=48*ps.length/\tb=bS last 2++jL a b c F l++bits++dN L1 256
def LX {e g:aD}{a b c:Nat}{F:aD}{l:List Mk}(h:M8 e g a b c F l):(jL a b c F l).length<=10000:=by
 have d:∀j:Nat,F[j]?.getD 0<=15:=fun j=>by
  have u:often F j<=7:=by
   rw[h.fs];exact rV _ _ _ (by omega) (by rw[fI];decide)
  rw[iJ];omega
 have o:=FY d l (fun q f=>(h.tells.sym q f).2.2);have v:=h.tells.count;have k:=h.a2;have p:=h.b2;have r:=h.c2;unfold jL;simp only[aN,aM,kJ];omega
def YR (k base:Nat)(last:Bool)(v pv:aK)(K:List Bool)(I:List Pc)(w:aH)(h:Sk w k base v K)(hp:zW w pv I)(Z:∀j off n c,pv= .slice (some (U j off)) n c->Off k v j)(ar:I.length<=100000)(ag:∀p∈I,BP p)(hO:bL w)(al:∀j,j<4->Off k v j)(hl:K.length<50000000000000)(au:base<=w.heap.size):Calls prog 137 #[E k,pv, .bool last] w fun e w'=>e= .returned (.tuple #[])/\∃v' tb,Sk w' k base v' (K++tb)/\BJ last I tb/\dH k w v w' v':=by
 have J:=Vj pv I w hp ar ag;have HO:=hide (aQ hO al);obtain⟨pa,pn,pc,rfl⟩:∃a n c,pv= .slice a n c:=by
  rcases hp with⟨_,h⟩|⟨j',W,cap,h,_⟩
  ·exact⟨_,_,_,h⟩
  ·exact⟨_,_,_,h⟩
 go_enter func137,ntmps137;go_wp2_with fail;apply J.mono;rintro e w1 ⟨g1,g2,f1,f2,rfl,J,av,ap,B,z,g⟩;have d:=J.fits ag;obtain⟨G,af⟩:=aP (bI (fK f1 286) 15);obtain⟨M,Q⟩:=aP (bI (fK f2 30) 15);rw[<-af,<-Q]at d;rw[<-af]at B;rw[<-Q]at z;have ac:=h.step0 g;have bh:=g.size;have kh:=zH k base 2 last v K w1 ac (by omega) (by omega) (by omega);have HC:=hide (aQ B z);go_wp2_with fail;apply kh.mono;rintro e w2 ⟨rfl,v2,R,f⟩;have o1:=h.off av;have o2:=h.off ap;obtain⟨B,z⟩:=HC.o;have D:=bA.wrt B o1 f;have C:=bA.wrt z o2 f;have az:=o1.wrt B.lt f;have aq:=o2.wrt z.lt f;have d:=d;have aw:gG w2 g1 0 G:=fun i hi=>by rw[dS];exact bA.cell D i (by rw[d.l1]at hi;exact hi)
 have am:gG w2 g2 0 M:=fun i hi=>by rw[dS];exact bA.cell C i (by rw[d.l2]at hi;exact hi)
 have bj:=f.step.size;have an:bL w2:=(HO.o.1.step g (fun _ _ y=>y)).step f.step (fun j hj y=>by
  have o:=HO.o.2 j hj;exact y.elim o.1 o.2)
 have kc:=RY k base g1 g2 v2 (K++bS last 2) G M w2 R aw am d.l1 d.l2 d.le1 d.le2 an (by rw[aN,aT];omega) (by omega);have HD:=hide (aQ D (aQ C (aQ az aq)));have ak:=hide (((dH.refl k w v).step0 g).trans f);go_wp2_with fail;apply kc.mono;rintro e w3 ⟨rfl,v3,a,b,c,F,l,A,H,q⟩;obtain⟨D,C,o1,o2⟩:=HD.o;have d:=d;have ab:=bA.wrt D o1 q;have Y:=bA.wrt C o2 q;have ao:Ints w3 g1 0 G:=⟨fun i hi=>by rw[dS];exact bA.cell ab i (by rw[d.l1]at hi;exact hi),d.le1,by rw[d.l1];omega⟩
 have ba:Ints w3 g2 0 M:=⟨fun i hi=>by rw[dS];exact bA.cell Y i (by rw[d.l2]at hi;exact hi),d.le2,by rw[d.l2];omega⟩
 have bg:=q.step.size;have ai:AX M:=by
  rcases d.aG9 with h0|h0
  ·exact Ij h0
  ·exact wB d.le2 h0
 have kb:=M6 g1 0 286 g2 0 30 G M w3 ao ba ab.lt Y.lt (wB d.le1 d.aE0) ai (by rw[d.l1];omega) (by rw[d.l2];omega);rw[d.l1,d.l2]at kb;have bc:=hide (ak.o.trans q);go_wp2_with fail;apply kb.mono;rintro e w4 ⟨b1,b2,rfl,bb,ay,X,ae,x⟩;have d:=d;have S:=A.step0 x;have bf:=x.size;have r:dH k w v w4 v3:=bc.o.step0 x;have ad:zW w4 (.slice pa pn pc) I:=by
  rcases hp with h|⟨j,off,cap,h1,h2,h3⟩
  ·exact .inl h
  ·have oj:=Z j off _ cap h1;refine .inr ⟨j,off,cap,h1,by omega,fun i p hp=> ?_⟩;obtain⟨q1,q2,q3⟩:=h3 i p hp;have nj:¬(j=k\/v.ownBlock=some j):=fun y=>y.elim oj.1 oj.2;exact⟨r.step.cell (p:=(U j _)) q1 nj,r.step.cell (p:=(U j _)) q2 nj,r.step.cell (p:=(U j _)) q3 nj⟩
 have T:∀j off n c,Value.slice pa pn pc= .slice (some (U j off)) n c->Off k v3 j:=fun j off n c e=>by
  have be:j<w.heap.size:=by
   rcases hp with⟨_,h⟩|⟨j',W,cap,h,h2,_⟩
   ·rw[e]at h;cases h
   ·rw[e]at h;simp only[nK,fH,wG,jX]at h;rw[h.1.1];exact h2
  exact(Z j off n c e).wrt be r
 have kp:=zY k base b1 b2 v3 (.slice pa pn pc) (K++bS last 2++jL a b c F l) I G M w4 S ad T X ae (A.off bb) (A.off ay) (fun p hp=>(d.need p hp).1) d.end_ (by omega) (by
  have:=LX H;rw[aN,aN,aT];omega) (by omega)
 rw[d.l1,d.l2]at kp;go_wp2_with fail;apply kp.mono;rintro e w5 ⟨rfl,v5,bits,N,ax,aj,P⟩;have ah:BJ last I (bS last 2++jL a b c F l++bits++dN G 256):=⟨G,M,a,b,c,F,l,bits,d,H,ax,aj,rfl⟩
 have aa:Sk w5 k base v5 (K++(bS last 2++jL a b c F l++bits++dN G 256)):=by simpa using N
 have u:=hide (aQ aa (aQ ah (r.trans P)));go_wp2_with fail;go_end0;exact⟨rfl,v5,_,u.o.1,u.o.2.1,u.o.2.2⟩
inductive zB:List Pc->List Bool->Prop
 |last (ps:List Pc) (tb:List Bool) (h:ps.length<=16384) (ht:BJ true ps tb):zB ps tb
 |more (ps:List Pc) (tb bits:List Bool) (h:16384<ps.length) (ht:BJ false (ps.take 16384) tb) (hr:zB (ps.drop 16384) bits):zB ps (tb++bits)
def KH {last:Bool}{e:List Pc}{d:List Bool}(h:BJ last e d):d.length<=10018+48*e.length:=by obtain⟨k,r,a,b,c,F,l,bits,f,g,j,o,rfl⟩:=h;have p:=LX g;have q:=f.le1 256;rw[aN,aN,aN,aT,fP,iJ];omega
def U6 (k base box:Nat)(last:Bool)(v f:aK)(g:List Bool)(d:List Pc)(w:aH)(h:Sk w k base v g)(B:w.cell? (U box 0)=some (E k))(q:∃a n c,f= .slice a n c)(hp:zW w f d)(x:∀j off n c,f= .slice (some (U j off)) n c->Off k v j)(u:d.length<=100000)(y:∀p∈d,BP p)(J:bL w)(z:∀j,j<4->Off k v j)(H:g.length<50000000000000)(b:base<=w.heap.size):Calls prog 136 #[f, .bool last,E box] w fun e w'=>e= .returned (.tuple #[])/\∃C l,Sk w' k base C (g++l)/\BJ last d l/\dH k w v w' C:=by have G:=hide (YR k base last v f g d w h hp x u y J z H b);obtain⟨a,n,c,rfl⟩:=q;go_enter func136,ntmps136;go_wp2_with fail;apply G.o.mono;rintro r w1 ⟨rfl,v1,l,F,I,A⟩;have D:=hide (aQ F (aQ I A));go_wp2_with fail;go_end0;exact⟨rfl,v1,l,D.o⟩
structure InT (w wr:aH)(k base j o c:Nat)(v v1:aK)(ps zs:List Pc)(bs b1:List Bool):Prop where
 sk:Sk wr k base v1 (bs++b1)
 wrt:dH k w v wr v1
 lies:vJ wr j o zs
 fine:∀p∈zs,BP p
 tol:∀rest,zB zs rest->zB ps (b1++rest)
 len:b1.length+100*zs.length<=100*ps.length
 cap:zs.length<=c
def Eh {j o:Nat}{d:List Pc}(h:vJ w j o d):vJ w j (o+m*3) (d.drop m):=fun i p hp=>by
 rw[kM]at hp
 obtain⟨b,c,a⟩:=h (m+i) p hp
 rw[wO,<-iV]at b c a
 exact⟨b,c,a⟩
def Gj {j o:Nat}{a:List Pc}(h:vJ w j o a):vJ w j o (a.take m):=fun i p hp=>by
 have hi:=(BD.1 hp).1
 rw[dF]at hi
 rw[jQ (by omega)]at hp
 exact h i p hp
def ZA (k base box j off cap:Nat)(v:aK)(D:List Bool)(q:List Pc)(w:aH)(h:Sk w k base v D)(X:w.cell? (U box 0)=some (E k))(ac:box≠k/\box<base)(ad:vJ w j off q)(N:j≠k/\j<base)(P:q.length<=cap)(I:∀p∈q,BP p)(ak:q.length<=1048576)(hO:bL w)(h4:4<=k/\4<=base)(hl:D.length<1000)(ae:base<=w.heap.size):Calls prog 135 #[.slice (some (U j off)) q.length cap,V 16384, .func (.func 136) #[] #[E box]] w fun e w'=>e= .returned (.tuple #[])/\∃v' bits,Sk w' k base v' (D++bits)/\zB q bits/\bits.length<=200000000/\dH k w v w' v':=by
 have HH:=hide (show InT w w k base j off cap v v q q D [] from⟨by rw[bG];exact h,dH.refl _ _ _,ad,I,fun rest hr=>hr,by simp,P⟩);have ab:∀b,b≠k->b<base->¬(b=k\/v.ownBlock=some b):=fun b A h2 y=>by
  rcases y with y|y
  ·exact A y
  ·obtain⟨B1,hB⟩:=h;have:=(hB.own.lt b y).1;omega
 have u:∀(wr:aH) (v1:aK),dH k w v wr v1->wr.cell? (U box 0)=some (E k):=fun wr v1 hw=>hw.step.cell (p:=(U box 0)) X (ab box ac.1 ac.2);have x:∀(wr:aH) (v1:aK),dH k w v wr v1->bL wr:=fun wr v1 hw=>hO.step hw.step (fun b hb=>ab b (by omega) (by omega));have f:∀(wr:aH) (v1:aK) (b1:List Bool),Sk wr k base v1 b1->∀b,b≠k->b<base->Off k v1 b:=fun wr v1 b1 hs b A h2=>⟨A,fun y=>by
  obtain⟨B1,hB⟩:=hs;have:=(hB.own.lt b y).1;omega⟩
 have S:=hide (aQ u (aQ x f));go_enter func135,ntmps135;go_wp2_with fail;go_loopg [0] q.length (fun g u0 wr=>∃(n o c:Nat) (v1:aK) (z:List Pc) (b1:List Bool),u0= .slice (some (U j o)) n c/\n=z.length/\n<=g/\InT w wr k base j o c v v1 q z D b1/\c<=cap);case atStart=>exact⟨q.length,off,cap,v,q,[],rfl,rfl,aS _,HH.o,aS _⟩
 case round=>
  obtain⟨n,o,c,v1,z,b1,rfl,hn,al,a,am⟩:=hrel;obtain⟨u,x,f⟩:=S.o;have B:=u wr v1 a.wrt;have C:=x wr v1 a.wrt;have l:=f wr v1 _ a.sk;have ai:=a.wrt.step.size;have Y:=a.cap;have aj:=a.len;by_cases ah:16384<n
  ·have K:(n:Int)>16384:=(by omega);have ao:(16384:Int)<=(c:Int):=(by omega);have an:(16384:Int)<=(n:Int):=(by omega);have ag:¬c=16384:=(by omega);have af:16384<c:=(by omega);have R:(z.take 16384).length=16384:=(by rw[dF];omega);have M:j<wr.heap.size:=(by omega);have hC:=U6 k base box false v1 (.slice (some (U j o)) 16384 c) (D++b1) (z.take 16384) wr a.sk B ⟨_,_,_,rfl⟩ (.inr ⟨j,o,c,by rw[R],M,Gj a.lies⟩) (fun j' T n' c' W=>by
    simp only[nK,fH,wG,jX]at W;rw[<-W.1.1];exact l j N.1 N.2) (by omega) (fun p hp=>a.fine p (zN hp)) C (fun b hb=>l b (by omega) (by omega)) (by rw[aN];omega) (by omega)
   have J:=hide (aQ a hn);clear a hn Y B C l R u x f;go_wp2_with fail;apply hC.mono;rintro r w1 ⟨rfl,v2,H,A,F,d⟩;have G:=hide (aQ A (aQ F d));clear A F d;go_wp2_with fail;go_roundg (gk-16384);case measure=>omega
   case rel=>
    obtain⟨a,hn⟩:=J.o;obtain⟨A,F,d⟩:=G.o;have Z:=KH F;rw[dF]at Z;refine⟨n-16384,o+49152,c-16384,v2,z.drop 16384,b1++H,by first|rfl|(congr 3;omega),by rw[dX,hn],by omega,⟨by rw[<-dB];exact A,a.wrt.trans d,?_,fun p hp=>a.fine p (IC hp),fun rest hr=> ?_,?_,by have:=a.cap;rw[dX];omega⟩,by omega⟩
    ·have h9:vJ w1 j o z:=fun i p hp=>by
      have Q:=S.o.2.2 wr v1 _ a.sk j N.1 N.2;obtain⟨q1,q2,q3⟩:=a.lies i p hp;have nj:¬(j=k\/v1.ownBlock=some j):=fun y=>y.elim Q.1 Q.2;exact⟨d.step.cell (p:=(U j _)) q1 nj,d.step.cell (p:=(U j _)) q2 nj,d.step.cell (p:=(U j _)) q3 nj⟩
     exact Eh (m:=16384) h9
    ·rw[dB];exact a.tol _ (.more z H rest (by omega) F hr)
    ·rw[aN,dX];omega
  ·have K:¬(n:Int)>16384:=(by omega);have M:j<wr.heap.size:=(by omega);have hC:=U6 k base box true v1 (.slice (some (U j o)) n c) (D++b1) z wr a.sk B ⟨_,_,_,rfl⟩ (.inr ⟨j,o,c,by rw[hn],M,a.lies⟩) (fun j' T n' c' W=>by
    simp only[nK,fH,wG,jX]at W;rw[<-W.1.1];exact l j N.1 N.2) (by omega) a.fine C (fun b hb=>l b (by omega) (by omega)) (by rw[aN];omega) (by omega)
   have J:=hide (aQ a hn);clear a hn Y B C l u x f;go_wp2_with fail;apply hC.mono;rintro r w1 ⟨rfl,v2,H,A,F,d⟩;obtain⟨a,hn⟩:=J.o;have Z:=KH F;have aa:=hide (show Sk w1 k base v2 (D++(b1++H))/\zB q (b1++H)/\(b1++H).length<=200000000/\dH k w v w1 v2 from⟨by
    rw[<-dB];exact A,a.tol _ (.last z H (by omega) F),by rw[aN];omega,a.wrt.trans d⟩)
   go_wp2_with fail;go_end0;exact⟨rfl,v2,_,aa.o⟩
def VO (k base box:Nat)(v:aK)(d:List Bool)(w:aH)(h:Sk w k base v d)(b:w.cell? (U box 0)=some (E k))(F:bL w)(G:4<=k/\4<=base)(H:d.length<1000)(a:base<=w.heap.size):Calls prog 135 #[.slice none 0 0,V 16384, .func (.func 136) #[] #[E box]] w fun e w'=>e= .returned (.tuple #[])/\∃u bits,Sk w' k base u (d++bits)/\zB [] bits/\bits.length<=200000000/\dH k w v w' u:=by
 have g:∀j,j<4->Off k v j:=fun j J=>⟨by omega,fun y=>by
  obtain⟨I,A⟩:=h;have:=(A.own.lt j y).1;omega⟩
 have C:=hide (U6 k base box true v (.slice none 0 0) d [] w h b ⟨_,_,_,rfl⟩ (.inl ⟨rfl,rfl⟩) (fun j off n c D=>by cases D) (by simp) (fun p hp=>by simp at hp) F g (by omega) a);go_enter func135,ntmps135;go_wp2_with fail;go_loopg [0] 1 (fun _ u0 wr=>u0= .slice none 0 0/\wr=w);case atStart=>exact⟨rfl,rfl⟩
 case round=>
  obtain⟨rfl,rfl⟩:=hrel;go_wp2_with fail;apply C.o.mono;rintro r w1 ⟨rfl,v1,f,B,x,q⟩;have l:=KH x;have z:=hide (show Sk w1 k base v1 (d++f)/\zB [] f/\f.length<=200000000/\dH k wr v w1 v1 from⟨B, .last [] f (by simp) x,by simp at l;omega,q⟩);go_wp2_with fail;go_end0;exact⟨rfl,v1,f,z.o⟩
def Gb (F:aK)(u:List Pc)(w:aH)(hp:zW w F u)(D:∀a n c,F= .slice a n c->n<=c)(z:∀p∈u,BP p)(M:u.length<=1048576)(hO:bL w)(h4:4<=w.heap.size):Calls prog 105 #[F] w fun e w'=>∃I bits,e= .returned I/\zB u bits/\oI w w' I bits:=by
 have ab:=ar9
 have P:∀(k:Nat) (w2:aH),k=w.heap.size->O w w2->k+2<=w2.heap.size->Sk w2 k (k+2) (.slice none 0 0) []->w2.cell? ⟨k+1,0,none⟩=some (E k)->
   Calls prog 135 #[F,V 16384, .func (.func 136) #[] #[.pointer (some ⟨k+1,0,none⟩)]] w2
   fun e w'=>e= .returned (.tuple #[])/\∃I bits,Sk w' k (k+2) I ([]++bits)/\zB u bits/\bits.length<=200000000/\dH k w2 (.slice none 0 0) w' I:=fun k w2 hk hs W d S=>by
  have G:=hO.step hs (fun _ _ y=>y);rcases hp with⟨rfl,rfl⟩|⟨j,off,cap,rfl,h2,f⟩
  ·exact VO k (k+2) (k+1) (.slice none 0 0) [] w2 d S G ⟨by omega,by omega⟩ (by simp) W
  ·exact ZA k (k+2) (k+1) j off cap (.slice none 0 0) [] u w2 d S ⟨by omega,by omega⟩ (fun i p x=>⟨hs.cell (f i p x).1 (fun y=>y),hs.cell (f i p x).2.1 (fun y=>y),hs.cell (f i p x).2.2 (fun y=>y)⟩) ⟨by omega,by omega⟩ (D _ _ _ rfl) z M G ⟨by omega,by omega⟩ (by simp) W
 obtain⟨ua,um,uc,rfl⟩:∃a n c,F= .slice a n c:=by
  rcases hp with⟨_,h⟩|⟨j',R,cap,h,_⟩
  ·exact⟨_,_,_,h⟩
  ·exact⟨_,_,_,h⟩
 go_enter func105,ntmps105;go_wp2_with fail;obtain⟨k,hk⟩:=aP w.heap.size;obtain⟨w2,b⟩:=aP ((w.alloc (.cells #[.slice none 0 0,V 0] 103)).alloc (.cells #[E w.heap.size] 101));have C:O w w2:=by rw[b];exact((aU _ _).alloc _).alloc _
 have ad:w2.heap.size=k+2:=by rw[b,hk];simp
 have H:w2.heap[k]? =some (.cells #[.slice none 0 0,V 0] 103 (0,0)):=by
  rw[b,hk];exact(dG _ _ _ (by simp)).trans (aR _ _)
 have v:w2.cell? ⟨k+1,0,none⟩=some (E k):=by
  have T:=aR (w.alloc (.cells #[.slice none 0 0,V 0] 103)) (.cells #[E w.heap.size] 101);rw[show(w.alloc (.cells #[.slice none 0 0,V 0] 103)).heap.size=w.heap.size+1 by simp,<-b,<-hk]at T;exact aC T 0 _ rfl
 have d:Sk w2 k (k+2) (.slice none 0 0) []:=⟨[],H,jJ _ _ _ _,bQ.nil,rfl,by omega⟩
 have ac:w.heap.size<=k:=by omega
 have Q:=P k w2 hk C (by omega) d v;rw[<-b,<-hk];clear b hk;apply Q.mono;rintro r w3 ⟨rfl,N,bits,f,l,aa,q⟩;rw[iO]at f;have Y:=q.step.cell (p:=⟨k+1,0,none⟩) v (fun y=>by
  rcases y with y|y
  ·have y:k+1=k:=y;omega
  ·cases y)
 have Z:=hide (Oz k (k+2) N bits w3 f);have X:=hide (show zB u bits/\oI w w3 N bits from⟨l,by
  obtain⟨B,A⟩:=f;refine⟨B,bH A.own (by omega),A.bits,A.len,C.trans' q.step (fun i hi y=> ?_)⟩;rcases y with y|y
  ·omega
  ·cases y⟩)
 obtain⟨va,vn,vc,K⟩:∃a n c,N= .slice a n c:=by
  obtain⟨B,A⟩:=f;obtain⟨_,⟨J,_⟩|⟨g,cap,_,J,_⟩⟩:=A.own
  ·exact⟨_,_,_,J⟩
  ·exact⟨_,_,_,J⟩
 subst K;clear f q d v H Q l;go_wp2_with fail;apply Z.o.mono;rintro r w4 ⟨rfl,rfl⟩;go_wp2_with fail;go_ret;exact⟨_,bits,rfl,X.o⟩
end Go.Proofs.YtbpahojchgpdnaaGreatDoor
