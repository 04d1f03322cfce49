import Derived.Test.YtbpahojchgpdnaaGreatDoorXLens
set_option maxRecDepth 20000
set_option maxHeartbeats 4000000
set_option linter.all false
namespace Go.Proofs.YtbpahojchgpdnaaGreatDoor
open Go.RowKit Go.dM Go.Maps Go.Proofs.Tryz
variable {w:aH} {e g k p q:Nat} {B out:aD}
def xW {w':aH}{o x:Obj}(a:w.heap[g]? =some x)(h:Below (w.alloc o).heap.size (w.alloc o) w'):w'.heap[g]? =some x:=by have b:=aO a;exact(h.block g (by simp;omega)).trans ((dG _ _ _ b).trans a)
def one_cell (w:aH)(v:aK)(t:TypeId):(w.alloc (.cells #[v] t)).cell? (U w.heap.size 0)=some v:=by rw[World.cell?_alloc_at (hn:=rfl)];rfl
def yG {w0 w':aH}{o:Obj}(a:O w0 w)(h:Below (w.alloc o).heap.size (w.alloc o) w'):O w0 w':=(a.alloc o).trans ⟨h.os,h.tape,h.output,h.size,fun k hk _=>h.block k hk⟩
def Jc (w:aH)(a b c d:Nat×Nat×Nat)(t:TypeId)(j:Nat)(r:Nat×Nat×Nat)(h:[a,b,c,d][j]? =some r):(w.alloc (.cells #[L6 a,L6 b,L6 c,L6 d] t)).cell? (U w.heap.size j)=some (L6 r):=by
 rw[World.cell?_alloc_at (hn:=rfl)];match j,h with
 |0,h=>cases h;rfl
 |1,h=>cases h;rfl
 |2,h=>cases h;rfl
 |3,h=>cases h;rfl
 |j+4,h=>simp at h
def E5 {o x:Obj}(a:w.heap[g]? =some x):(w.alloc o).heap[g]? =some x:=(dG _ _ _ (aO a)).trans a
def zZ (w:aH):Calls prog 102 #[] w fun e w'=>∃S T c:Nat,e= .returned (.tuple #[.slice (some (U S 0)) 288 c, .slice (some (U T 0)) 32 32])/\Ints w' S 0 aW/\Ints w' T 0 (List.replicate 32 5)/\O w w':=by
 have u:=aU (fun _=>False) w;go_enter func102,ntmps102;go_wp2_with fail;apply(yF w.heap.size 8 144 1 (w.alloc _) (one_cell _ _ _) (by decide) (by decide) (by decide)).mono;rintro e w1 ⟨g1,rfl,Y,M,m⟩;have z:=yG u m;go_wp2_with fail;apply(yF w1.heap.size 9 112 1 (w1.alloc _) (one_cell _ _ _) (by decide) (by decide) (by decide)).mono;rintro e w2 ⟨g2,rfl,aa,L,d⟩;have D:=yG z d;have v:=hide (xW M d);go_wp2_with fail;apply(yF w2.heap.size 7 24 1 (w2.alloc _) (one_cell _ _ _) (by decide) (by decide) (by decide)).mono;rintro e w3 ⟨X,rfl,ab,K,b⟩;have G:=yG D b;have n:=hide (xW v.o b);have y:=hide (xW L b);go_wp2_with fail;apply(yF w3.heap.size 8 8 1 (w3.alloc _) (one_cell _ _ _) (by decide) (by decide) (by decide)).mono;rintro e w4 ⟨g4,rfl,Z,I,a⟩;have s:=yG G a;have t:=hide (xW n.o a);have F:=hide (xW y.o a);have A:=hide (xW K a);go_wp2_with fail;apply(Rn w4.heap.size 4 4 [(g1,8,144),(g2,9,112),(X,7,24),(g4,8,8)] (w4.alloc _) rfl (by decide) (by decide) (by decide) (Jc _ _ _ _ _ _) ?cb ?cp ?cr).mono;case cb=>
  intro r i;simp only[fE,wQ,or_false]at i;rcases i with rfl|rfl|rfl|rfl
  ·exact E5 t.o
  ·exact E5 F.o
  ·exact E5 A.o
  ·exact E5 I
 case cp=>
  intro r i;simp only[fE,wQ,or_false]at i;rcases i with rfl|rfl|rfl|rfl<;>simp only[]<;>omega
 case cr=>
  intro r i;simp only[fE,wQ,or_false]at i;rcases i with rfl|rfl|rfl|rfl<;>simp only[]<;>omega
 rintro e w5 ⟨c5,rfl,f,j⟩;rw[Qm,ak7]at f;rw[Qm];have H:=yG s j;have J:Ints w5 (w4.heap.size+1) 0 aW:=VL (by
  have:=f.cells rfl;rw[show(World.alloc w4 _).heap.size=w4.heap.size+1 by simp]at this;exact this) vX (by rw[dP];decide)
 go_wp2_with fail;apply(yF w5.heap.size 5 32 1 (w5.alloc _) (one_cell _ _ _) (by decide) (by decide) (by decide)).mono;rintro e w7 ⟨g5,rfl,W,P,l⟩;have C:O w5 w7:=yG (aU (fun _=>False) w5) l;have N:=hide (J.step C (fun x=>x));have Q:=hide (aa6 P);have R:=hide (H.trans C);go_wp2_with fail;go_ret2;exact⟨_,_,_,rfl,N.o,Q.o,R.o⟩
def RH (w:aH):Calls prog 204 #[] w fun e w'=>∃R mb f dl:Nat,e= .returned (E R)/\w.heap.size<=R/\w'.heap[R]? =some (.cells #[.map (some mb),V ((aI aW).longest:Nat), .map (some f),V (dl:Nat)] 125 (0,0))/\w.heap.size<=mb/\TabAt w' mb (aI aW).tab/\w.heap.size<=f/\TabAt w' f (aI (List.replicate 32 5)).tab/\O w w'/\dl=(aI (List.replicate 32 5)).longest:=by
 go_enter func204,ntmps204;go_wp2_with fail;apply(zZ w).mono;rintro e w5 ⟨Y,Z,c5,rfl,L,J,r⟩;have u:=vD Y 0 c5 aW w5 L CW;rw[dP]at u;obtain⟨lg,K⟩:=aP ((aI aW).longest);obtain⟨tb,y⟩:=aP ((aI aW).tab);rw[<-K,<-y]at u;go_wp2_with fail;apply u.mono;rintro e w6 ⟨mb,rfl,ab,m,v⟩;obtain⟨w7,j⟩:=aP (w6.alloc (.cells #[.map (some mb),V ((aI aW).longest:Nat)] 123));have i:O w6 w7:=by rw[j];exact(aU _ _).alloc _
 have G:w7.heap[w6.heap.size]? =some (.cells #[.map (some mb),V ((aI aW).longest:Nat)] 123 (0,0)):=by rw[j];exact aR _ _
 have l:=vD Z 0 32 (List.replicate 32 5) w7 ((J.step v (fun x=>x)).step i (fun x=>x)) II;rw[dQ]at l;obtain⟨dl,t⟩:=aP ((aI (List.replicate 32 5)).longest);rw[<-t]at l;have z:=hide l;have N:=hide t;have H:=hide G;have C:=hide (m.step i (fun x=>x));have c:=(r.trans v).trans i;have Q:=r.size;have I:=c.size;have X:=i.size;have D:=hide j;clear l t G m v j;go_wp2_with fail;rw[<-D.o];apply z.o.mono;clear z D;rintro e w8 ⟨f,rfl,ac,n,b⟩;have F:=hide n;clear n;have d:=b.at_ H.o (fun x=>x);have M:=hide (C.o.step b (fun x=>x));have s:=c.trans b;have P:=b.size;have W:=(show w8.cell? (U w6.heap.size 0)=_ from aC d 0 _ rfl)
 have T:=(show w8.cell? (U w6.heap.size 1)=_ from aC d 1 _ rfl)
 have S:=aO d;have ad:=hide d;clear d H C b c;have aa:=s.size;go_wp2_with fail;go_ret;have A:=(aU (fun _=>False) w8).alloc (.cells #[.map (some f),V (dl:Nat)] 123);have a:=A.alloc (.cells #[.map (some mb),V ((aI aW).longest:Nat), .map (some f),V (dl:Nat)] 125);refine⟨w8.heap.size+1,mb,f,dl,rfl,by omega,?_,by omega,?_,by omega,?_,s.trans a,N.o⟩
 ·have:=aR (w8.alloc (.cells #[.map (some f),V (dl:Nat)] 123)) (.cells #[.map (some mb),V ((aI aW).longest:Nat), .map (some f),V (dl:Nat)] 125);rw[show(w8.alloc (.cells #[.map (some f),V (dl:Nat)] 123)).heap.size=w8.heap.size+1 by simp]at this;exact this
 ·exact y▸M.o.step a (fun x=>x)
 ·exact F.o.step a (fun x=>x)
def kS:gK=aW:=rfl
def Hw {d f base off cap z m m1 m2 a l2:Nat}{st:iH}(h:mF w d f base g off cap z B st p)(r:st.fx= .pointer (some (U m 0)))(b:a=(aI gK).longest)(l:l2=(aI fM).longest)(c:w.heap[m]? =some (.cells #[.map (some m1),V a, .map (some m2),V l2] 125 (0,0)))(j:TabAt w m1 (aI gK).tab)(i:TabAt w m2 (aI fM).tab)(s:tK d f st.v m)(o1:tK d f st.v m1)(o2:tK d f st.v m2):∀w',w'=(((((w.setCell (U d 7) (.map (some m1))).setCell (U d 8) (V a)).setCell (U d 9) (.map (some m2))).setCell (U d 10) (V l2)).setCell (U d 4) (V 2))->mF w' d f base g off cap z B { st with sm:= .map (some m1),sl:=a,dm:= .map (some m2),dl:=l2,place:=2 } p/\WB w' d f st.v { st with sm:= .map (some m1),sl:=a,dm:= .map (some m2),dl:=l2,place:=2 } gK fM/\PX w' d f st.v st.fx/\fC d f w st.v w' st.v:=by
 rintro w' rfl;have n:fC d f w st.v _ st.v:=(((((fC.setCell d f w st.v 7 (.map (some m1))).trans (fC.setCell d f _ st.v 8 (V a))).trans (fC.setCell d f _ st.v 9 (.map (some m2)))).trans (fC.setCell d f _ st.v 10 (V l2))).trans (fC.setCell d f _ st.v 4 (V 2)))
 refine⟨?_,⟨⟨m1,rfl,j.step n.step o1.not,o1⟩,b,⟨some m2,rfl, .inr ⟨m2,rfl,i.step n.step o2.not,o2⟩⟩,l,by rw[kS,dP];omega,by unfold fM;rw[dQ];omega⟩,?_,n⟩
 ·have a1:=h.set (st':={ st with sm:= .map (some m1) }) 7 (.map (some m1)) (by simp[iH.cells]) rfl rfl;have a2:=a1.set (st':={ st with sm:= .map (some m1),sl:=a }) 8 (V a) (by simp[iH.cells]) rfl rfl;have u:=a2.set (st':={ st with sm:= .map (some m1),sl:=a,dm:= .map (some m2) }) 9 (.map (some m2)) (by simp[iH.cells]) rfl rfl;have t:=u.set (st':={ st with sm:= .map (some m1),sl:=a,dm:= .map (some m2),dl:=l2 }) 10 (V l2) (by simp[iH.cells]) rfl rfl;exact t.set (st':={ st with sm:= .map (some m1),sl:=a,dm:= .map (some m2),dl:=l2,place:=2 }) 4 (V 2) (by simp[iH.cells]) rfl rfl
 ·rw[b,l]at c;have o:PX w d f st.v (E m):= .inr ⟨m,m1,m2,rfl,c,j,i,s,o1,o2⟩;rw[r];exact o.step n
def Mf (d f base g off cap z p:Nat)(B:aD)(st:iH)(w:aH)(e:Ending)(w':aH):Prop:=
 e= .returned (V 0)/\∃st',st'.v=st.v/\(st'.out=st.out/\st'.fresh=st.fresh)/\st'.room=st.room/\st'.place=2/\st'.last=st.last/\st'.left=st.left/\mF w' d f base g off cap z B st' p/\WB w' d f st.v st' gK fM/\PX w' d f st.v st'.fx/\fC d f w st.v w' st.v
def NS (d f base g off cap z p j m1 m2:Nat)(B:aD)(st:iH)(w:aH)(h:mF w d f base g off cap z B st p)(A:∃x,st.sm= .map x)(t:∃x,st.dm= .map x)(c:st.fx= .pointer (some (U j 0)))(a:w.heap[j]? =some (.cells #[.map (some m1),V ((aI gK).longest:Nat), .map (some m2),V ((aI fM).longest:Nat)] 125 (0,0)))(r:TabAt w m1 (aI gK).tab)(m:TabAt w m2 (aI fM).tab)(y:tK d f st.v j)(o1:tK d f st.v m1)(o2:tK d f st.v m2):Calls prog 194 #[E d] w fun e w'=>Mf d f base g off cap z p B st w e w':=by
 obtain⟨M,l⟩:=A;obtain⟨L,n⟩:=t;obtain⟨_,_,_,K,_,_,F,X,G,Q,u,_⟩:=h.dec.cell;rw[l]at F;rw[n]at G;rw[c]at u;have N:=h.dec.free 4;have W:=h.dec.free 7;have T:=h.dec.free 8;have S:=h.dec.free 9;have P:=h.dec.free 10;obtain⟨J,b⟩:=aP ((aI gK).longest);obtain⟨l2,i⟩:=aP ((aI fM).longest);rw[<-b,<-i]at a;have b0:=(show w.cell? (U j 0)=_ from aC a 0 _ rfl)
 have b1:=(show w.cell? (U j 1)=_ from aC a 1 _ rfl)
 have b2:=(show w.cell? (U j 2)=_ from aC a 2 _ rfl)
 have R:=(show w.cell? (U j 3)=_ from aC a 3 _ rfl)
 have C:=y.d;have s:=hide (Hw h c b i a r m y o1 o2 _ rfl);clear h l n c a r m b y o1 o2 i;go_enter func194,ntmps194;go_wp2_with fail;go_ret;obtain⟨r1,D,I,H⟩:=s.o;exact⟨rfl,{ st with sm:= .map (some m1),sl:=J,dm:= .map (some m2),dl:=l2,place:=2 },rfl,⟨rfl,rfl⟩,rfl,rfl,rfl,rfl,r1,D,I,H⟩
def R7 (d f base g off cap z p:Nat)(B:aD)(st:iH)(w:aH)(h:mF w d f base g off cap z B st p)(L:∃x,st.sm= .map x)(P:∃x,st.dm= .map x)(A:st.fx= .pointer none):Calls prog 194 #[E d] w fun e w'=>Mf d f base g off cap z p B st w e w':=by
 obtain⟨x1,y⟩:=L;obtain⟨x2,n⟩:=P;obtain⟨_,_,_,_,_,_,_,_,_,_,m,_⟩:=h.dec.cell;rw[A]at m;have s:=hide h;have N:=hide y;have K:=hide n;clear h y n A;go_enter func194,ntmps194;go_wp2_with fail;apply(RH w).mono;rintro e w1 ⟨R,mb,Q,l2,rfl,J,a,r,I,D,C,j,u⟩;have c:=s.o.step0 j;obtain⟨_,_,_,k3,_,_,Z,k7,k8,k9,T,_⟩:=c.dec.cell;rw[N.o]at Z;rw[K.o]at k8;have f3:=c.dec.free 4;have f6:=c.dec.free 7;have f7:=c.dec.free 8;have f8:=c.dec.free 9;have f9:=c.dec.free 10;have aa:=c.dec.free 11;obtain⟨lg,i⟩:=aP ((aI aW).longest);rw[<-i]at a;have b0:=(show w1.cell? (U R 0)=_ from aC a 0 _ rfl)
 have b1:=(show w1.cell? (U R 1)=_ from aC a 1 _ rfl)
 have b2:=(show w1.cell? (U R 2)=_ from aC a 2 _ rfl)
 have b3:=(show w1.cell? (U R 3)=_ from aC a 3 _ rfl)
 have oo:∀k,w.heap.size<=k->tK d f st.v k:=fun k hk=>by
  have z1:=s.o.dec.ag2;have z2:=s.o.dec.as5;have z3:=s.o.dec.af8;exact⟨by omega,by omega,fun hx=>by have z4:=(s.o.dec.own.lt k hx).2;omega⟩
 have X:=(oo R J).d;have t:fC d f w st.v w1 st.v:=fC.step0 j;have H1:=hide c;have M:=hide t;have G:=hide a;have S:=hide C;have H:=hide i;have F:=hide u;have l:=hide oo;clear c a C i oo t j m u;go_wp2_with fail;go_ret;have h2:mF (w1.setCell (U d 11) (E R)) d f base g off cap z B { st with fx:=(E R) } p:=H1.o.set 11 _ (by simp[iH.cells]) rfl rfl;have b:=fC.setCell d f w1 st.v 11 (E R);obtain⟨r1,Y,r3,W⟩:=Hw (st:={ st with fx:=(E R) }) h2 rfl H.o F.o (b.step.at_ G.o (l.o R J).not) (I.step b.step (l.o mb r).not) (S.o.step b.step (l.o Q D).not) (l.o R J) (l.o mb r) (l.o Q D) _ rfl;exact⟨rfl,{ st with fx:=(E R),sm:= .map (some mb),sl:=lg,dm:= .map (some Q),dl:=l2,place:=2 },rfl,⟨rfl,rfl⟩,rfl,rfl,rfl,rfl,r1,Y,r3,(M.o.trans b).trans W⟩
def VY (d f base g off cap z p:Nat)(B:aD)(st:iH)(w:aH)(h:mF w d f base g off cap z B st p)(c:PX w d f st.v st.fx)(b:∃x,st.sm= .map x)(a:∃x,st.dm= .map x):Calls prog 194 #[E d] w fun e w'=>Mf d f base g off cap z p B st w e w':=by
 rcases c with c|⟨r,m1,m2,i,j,e3,o,n,m,l⟩
 ·exact R7 d f base g off cap z p B st w h b a c
 ·exact NS d f base g off cap z p r m1 m2 B st w h b a i j e3 o n m l
def G8 (D:d9)(B:aD)(n:Nat):∀k p row e,iC D B n k p row= .no e->e=8\/e=9:=by
 intro k;induction k with
 |zero=>intro p row e h;simp[iC]at h
 |succ k ih=>
  intro p row e h;rw[iC]at h;split at h
  ·simp at h
  ·split at h
   ·rename_i b hs;simp only[R.no.injEq]at h;subst h;exact .inr (oU hs)
   ·simp at h
   ·split at h
    ·simp only[R.no.injEq]at h;exact .inl h.symm
    ·split at h
     ·rename_i b a;exact(J3 a).elim
     ·simp at h
     ·split at h
      ·simp only[R.no.injEq]at h;exact .inl h.symm
      ·exact ih _ _ _ h
def TG (f g off cap z p:Nat)(B:aD)(w:aH)(Z:w.heap[f]? =some (.cells #[.slice (bE g off B.length) B.length cap,V p,V z] 91 (0,0)))(hS:Src w g off B)(j:g≠f)(hO:bL w)(aq:4<=f)(hp:p<=8*B.length):Calls prog 205 #[E f] w fun e w'=>an6 (bW B p) f w e w':=by
 have bh:=aO Z;obtain⟨res,b⟩:=aP (bW B p);have d:=hide b;rw[<-b];clear b;go_enter func205,ntmps205;go_wp2_with fail;obtain⟨R,hR⟩:=aP w.heap.size;have aw:(w.alloc (.cells #[.map none,V 0, .map none,V 0] 125)).heap[R]? =some (.cells #[.map none,V 0, .map none,V 0] 125 (0,0)):=by rw[hR];exact aR _ _
 have G:=lV.vU Z (.cells #[.map none,V 0, .map none,V 0] 125);have N:w.heap.size<=R:=by omega
 have l:¬R=f:=by omega
 rw[<-hR];generalize w.alloc (.cells #[.map none,V 0, .map none,V 0] 125)=w1 at*;clear hR;by_cases D:p+5<=8*B.length;case neg=>
  apply(dL f g off cap z p 5 B w1 (G.feed _ _ _ _ Z) (hS.step G.step j) j (by omega) hp (by omega)).mono;rintro e w2 ⟨rfl,L⟩;have c:=hide (G.trans L);clear G L aw;go_wp2_with fail;rw[d.o,AY B p (by omega)];exact⟨rfl,rfl,_,c.o⟩
 apply(dO f g off cap z p 5 B w1 (G.feed _ _ _ _ Z) (hS.step G.step j) j (by omega) D).mono;rintro e w2 ⟨rfl,L⟩;have m:=G.trans L;have aj:=L.step.at_ aw l;have bv:=bO B p 5;go_wp2_with fail;by_cases h2:p+5+5<=8*B.length;case neg=>
  apply(dL f g off cap z (p+5) 5 B w2 (m.feed _ _ _ _ Z) (hS.step m.step j) j (by omega) D (by omega)).mono;rintro e w3 ⟨rfl,K⟩;have c:=hide (m.trans K);clear m K aj;go_wp2_with fail;rw[d.o,AY B p (by omega)];exact⟨rfl,rfl,_,c.o⟩
 apply(dO f g off cap z (p+5) 5 B w2 (m.feed _ _ _ _ Z) (hS.step m.step j) j (by omega) h2).mono;rintro e w3 ⟨rfl,K⟩;have s:=m.trans K;have ba:=K.step.at_ aj l;have bo:=bO B (p+5) 5;clear m K aj;go_wp2_with fail;by_cases h3:p+5+5+4<=8*B.length;case neg=>
  apply(dL f g off cap z (p+5+5) 4 B w3 (s.feed _ _ _ _ Z) (hS.step s.step j) j (by omega) h2 (by omega)).mono;rintro e w4 ⟨rfl,W⟩;have c:=hide (s.trans W);clear s W ba;go_wp2_with fail;rw[d.o,AY B p (by omega)];exact⟨rfl,rfl,_,c.o⟩
 apply(dO f g off cap z (p+5+5) 4 B w3 (s.feed _ _ _ _ Z) (hS.step s.step j) j (by omega) h3).mono;rintro e w4 ⟨rfl,W⟩;have i:=s.trans W;have J:=W.step.at_ ba l;have bq:=bO B (p+5+5) 4;have b:res=Qb B (p+5+5+4) (aG B p 5+257) (aG B (p+5) 5+1) (aG B (p+5+5) 4+4):=by rw[d.o,Gq B p h3]
 clear d;generalize aG B p 5=x1 at*;generalize aG B (p+5) 5=x2 at*;generalize aG B (p+5+5) 4=x3 at*;obtain⟨q,hq⟩:=aP (p+5+5+4);rw[<-hq]at h3 i b;clear hq D h2 hp;by_cases I:286<x1+257\/30<x2+1
 ·unfold Qb at b;rw[aA I]at b;obtain⟨⟨b0,b1,b2,b3⟩,f0,f1,f2,f3⟩:=mV J;have d:=hide b;clear b J;by_cases bg:286<x1+257;all_goals
   go_wp2_with fail;refine aY (v:= .tuple #[.agg #[.map none,V 0, .map none,V 0],V 7]) (by simp[results,results205,go_sem,b0,b1,b2,b3]) rfl ?_;rw[d.o];exact⟨rfl,_,lV.sets i (aU _ _) N l⟩
 ·unfold Qb at b;rw[aB I]at b;have bg:¬286<x1+257:=fun h=>I (.inl h);have bx:¬30<x2+1:=fun h=>I (.inr h);have d:=hide b;clear b;go_wp2_with fail;have ar:=PW f g off cap z q (x3+4) B w4 (i.feed _ _ _ _ Z) (hS.step i.step j) j (by omega) (by omega) (hO.step i.step (fun k hk x=>by omega)) aq;have bc:(((x3+4:Nat)):Int)=(x3:Int)+4:=by omega
  rw[bc]at ar;apply ar.mono;rintro e w5 (⟨r,S⟩|⟨r,rfl,q5,u⟩);case inr=>
   have c:=hide (i.trans u);clear i u J;go_wp2_with fail;rw[d.o,aB (by omega)];exact⟨rfl,rfl,_,c.o⟩
  unfold ah3 at S;by_cases C:fF (bD B q (x3+4))=true;case neg=>
   rw[aB C]at S;obtain⟨rfl,q5,u⟩:=S;have aa:=u.step.at_ J l;obtain⟨b0,b1,b2,b3,f0,f1,f2,f3⟩:=Un aa;have c:=hide (i.trans u);go_wp2_with fail;refine aY (v:= .tuple #[.agg #[.map none,V 0, .map none,V 0],V 7]) (by simp[results,results205,go_sem,b0,b1,b2,b3]) rfl ?_;rw[d.o,aA r,aB C];exact⟨rfl,_,lV.sets c.o ((aU _ _).alloc _) N l⟩
  rw[aA C]at S;obtain⟨m1,rfl,bt,ah,u⟩:=S;have b:=d.o;rw[aA r,aA C]at b;clear d;have ao:=wM (bD B q (x3+4)) 15;have an:=VK B q (x3+4);obtain⟨M,hM⟩:=aP (aI (bD B q (x3+4)));have ay:M.longest<=15:=by rw[hM];exact ao
  rw[<-hM]at ah b an|-
  clear ao hM C;obtain⟨n,hn⟩:=aP (x1+257+(x2+1));rw[<-hn]at b;have en:(x1:Int)+257+((x2:Int)+1)=(n:Int):=by omega
  have bb:n<=400:=by omega
  have bk:=i.step.size;have T:=i.trans u;have aa:=u.step.at_ J l;have am:=T.feed _ _ _ _ Z;have P:=lV.vU am (.cells #[.map (some m1),V M.longest] 123);have t:=T.trans P;have ag:=P.step.at_ aa l;have ac:m1≠f:=by omega
  have ax:=ah.step P.step ac;have au:=P.feed _ _ _ _ am;have H:=Gz f g off cap z n m1 (q+3*(x3+4)) M B (w5.alloc (.cells #[.map (some m1),V M.longest] 123)) au (hS.step t.step j) j ax ac ay r bb an (hO.step t.step (fun k hk x=>by omega)) aq;have HN:=hide hn;have d:=hide b;clear hn b T i u J aa am P ah ax au an;go_wp2_with fail;obtain⟨w6,av⟩:=aP (w5.alloc (.cells #[.map (some m1),V M.longest] 123));rw[<-av]at H t ag|-
  clear av;cases hrr:NM M B n (q+3*(x3+4))with
  |miss=>
   have D:=H;rw[hrr]at D;apply D.mono;rintro e w7 ⟨rfl,q7,y⟩;have c:=hide (t.trans y);clear D y;go_wp2_with fail;rw[d.o,hrr];exact⟨rfl,rfl,_,c.o⟩
  |no x=>
   have D:=H;have hx:=G8 _ _ _ _ _ _ _ hrr;have bs:((x:Int) !=0)=true:=(by rw[jP];omega);rw[hrr]at D;apply D.mono;rintro e w7 ⟨rfl,q7,y⟩;obtain⟨⟨b0,b1,b2,b3⟩,f0,f1,f2,f3⟩:=mV (y.step.at_ ag l);have c:=hide (t.trans y);clear D y hx;go_wp2_with fail;refine aY (v:= .tuple #[.agg #[.map none,V 0, .map none,V 0],V (x:Nat)]) (by simp[results,results205,go_sem,b0,b1,b2,b3]) rfl ?_;rw[d.o,hrr];exact⟨rfl,_,lV.sets c.o (aU _ _) N l⟩
  |ok row q7=>
   have D:=H;rw[hrr]at D;apply D.mono;rintro e w7 ⟨ae,RB,rfl,bm,F,y⟩;have b:=d.o;rw[hrr]at b;replace b:res=pI row (x1+257) q7:=b;have Y:=t.trans y;have ai:=y.step.at_ ag l;obtain⟨a,ha⟩:=aP (x1+257);rw[<-ha]at b;have ea:(x1:Int)+257=(a:Int):=(by omega);have bz:a<=n:=(by have:=HN.o;omega);have af:256<a:=(by omega);have bw:¬n=a:=(by have:=HN.o;omega);have eA:(row.take a).length=a:=(by rw[dF,ae];omega);have eB:(row.drop a).length=n-a:=(by rw[dX,ae]);have ad:(row.take a)[256]?.getD 0=row[256]?.getD 0:=(by rw[jQ af]);have al:=Ig RB 0 a n (n-a) (row.take a) (row.drop a) w7.drew ((XU F a).step ((aU (fun _=>False) w7).drew) (fun x=>x)) ((WK F a).step ((aU (fun _=>False) w7).drew) (fun x=>x)) (by omega);rw[eA,eB,ad]at al;have bj:(0:Int)<=(a:Int):=(by omega);have bl:(a:Int)<=(n:Int):=(by omega);have bu:((n:Int)-(a:Int))=((n-a:Nat):Int):=(by omega);have d:=hide b;have HA:=hide ha;have bn:=aO ai;have be:=Y.step.size;clear eA eB ad b F ha;by_cases ab:0<row[256]?.getD 0/\fF (row.take a)=true/\p9 (row.drop a)=true
   ·have ak:=al.mono (R':=fun e w'=>ao8 (row.take a) (row.drop a) w7.drew e w'/\O w7.drew w') (fun e w' h=>by
     rcases h with⟨_,_,_,h⟩|⟨h,_⟩
     ·exact h
     ·exact(h ab).elim)
    have b:=d.o;unfold pI at b;rw[aA ab]at b;have Q:=hide b;clear d b;go_wp2_with fail
    go_region_held3 (fun w'=>w'.heap[R]? =some (.cells #[.map none,V 0, .map none,V 0] 125 (0,0))\/True) (exact .inr bT)
     (first|(go_at_call 214;apply ak.mono;rintro e w8 ⟨⟨mb,x,rfl,br,ap,az⟩,X⟩;obtain⟨⟨b0,b1,b2,b3⟩,f0,f1,f2,f3⟩:=mV (X.at_ (w:=w7.drew) ai (fun x=>x))))
    go_wp2_with fail;refine aY (v:= .tuple #[.agg #[.map (some mb),V ((aI (row.take a)).longest:Nat), .map x,V ((aI (row.drop a)).longest:Nat)],V 0]) (by simp[results,results205,go_sem,b0,b1,b2,b3]) rfl ?_;rw[Q.o];have hx:w7.drew.heap.size=w7.heap.size:=rfl;refine⟨⟨mb,x,rfl,by omega,?_,?_⟩,lV.sets Y ((aU (fun _=>False) w7).drew.trans X) N l⟩
    ·have A:mb≠R:=(by omega);exact(((ap.of (cZ _ _ _ _ A)).of (cZ _ _ _ _ A)).of (cZ _ _ _ _ A)).of (cZ _ _ _ _ A)
    ·rcases az with h|⟨m2,e2,bp,bf⟩
     ·exact .inl h
     ·have A:m2≠R:=(by omega);exact .inr ⟨m2,e2,by omega,(((bf.of (cZ _ _ _ _ A)).of (cZ _ _ _ _ A)).of (cZ _ _ _ _ A)).of (cZ _ _ _ _ A)⟩
   ·have ak:=al.mono (R':=fun e w'=>e= .returned (.tuple #[.agg #[.map none,V 0, .map none,V 0],V 7])/\O w7.drew w') (fun e w' h=>by
     rcases h with⟨D,h2,h3,_⟩|⟨_,h⟩
     ·exact(ab ⟨D,h2,h3⟩).elim
     ·exact h)
    have b:=d.o;unfold pI at b;rw[aB ab]at b;have Q:=hide b;go_wp2_with fail
    go_region_held3 (fun w'=>w'.heap[R]? =some (.cells #[.map none,V 0, .map none,V 0] 125 (0,0))\/True) (exact .inr bT)
     (first|(go_at_call 214;apply ak.mono;rintro e w8 ⟨rfl,X⟩;obtain⟨⟨b0,b1,b2,b3⟩,f0,f1,f2,f3⟩:=mV (X.at_ (w:=w7.drew) ai (fun x=>x))))
    go_wp2_with fail;refine aY (v:= .tuple #[.agg #[.map none,V 0, .map none,V 0],V 7]) (by simp[results,results205,go_sem,b0,b1,b2,b3]) rfl ?_;rw[Q.o];exact⟨rfl,_,lV.sets Y ((aU (fun _=>False) w7).drew.trans X) N l⟩
def VI (d f base g off cap z p q n m:Nat)(B:aD)(st:iH)(w:aH)(h:mF w d f base g off cap z B st p)(r:q=(p+7)/8*8)(hp:q+32<=8*B.length)(hn:aG B q 16=n)(x:aG B (q+16) 16=m)(u:m≠65535-n)(A:n<=65535):Calls prog 193 #[E d] w fun e w'=>e= .returned (V 6)/\∃q',mF w' d f base g off cap z B st q'/\fC d f w st.v w' st.v:=by
 obtain⟨G,_,_,c3,c4,D,_⟩:=h.dec.cell;have t:=h.src.much;have C:p<=q:=by have:=r;omega
 go_enter func193,ntmps193;go_wp2_with fail;apply(uW f p _ w h.feed (by omega)).mono;rintro e w1 ⟨rfl,a⟩;rw[<-r]at a;have b:=h.fed a;obtain⟨F,_⟩:=b.dec.cell;go_wp2_with fail;apply(dO f g off cap z q 16 B w1 b.feed b.src b.af9.f (by omega) (by omega)).mono;rintro e w2 ⟨rfl,c⟩;rw[hn];have j:=b.fed c;obtain⟨b0,_⟩:=j.dec.cell;go_wp2_with fail;apply(dO f g off cap z (q+16) 16 B w2 j.feed j.src j.af9.f (by omega) (by omega)).mono;rintro e w3 ⟨rfl,i⟩;rw[x];have y:=hide (j.fed i);have l:=hide (((fC.fed (d:=d) (v:=st.v) a).trans (fC.fed c)).trans (fC.fed i));have s:((m:Int) !=(65535:Int)-(n:Int))=true:=by rw[jP];omega
 go_wp2_with fail;go_ret;exact⟨rfl,_,y.o,l.o⟩
def NJ (d f base g off cap z p q:Nat)(B:aD)(st:iH)(w:aH)(h:mF w d f base g off cap z B st p)(t:q=(p+7)/8*8)(u:p<=8*B.length)(hp:8*B.length<q+32):Calls prog 193 #[E d] w fun e w'=>e=lost/\∃q',mF w' d f base g off cap z B st q'/\fC d f w st.v w' st.v:=by
 obtain⟨C,_,_,c3,c4,y,_⟩:=h.dec.cell;have s:=h.src.much;have n:q<=8*B.length:=by omega
 go_enter func193,ntmps193;go_wp2_with fail;apply(uW f p _ w h.feed (by omega)).mono;rintro e w1 ⟨rfl,c⟩;rw[<-t]at c;have b:=h.fed c;obtain⟨A,_⟩:=b.dec.cell;go_wp2_with fail;by_cases m:q+16<=8*B.length
 ·apply(dO f g off cap z q 16 B w1 b.feed b.src b.af9.f (by omega) m).mono;rintro e w2 ⟨rfl,j⟩;have x:=bO B q 16;have l:=b.fed j;obtain⟨b0,_⟩:=l.dec.cell;go_wp2_with fail;apply(dL f g off cap z (q+16) 16 B w2 l.feed l.src l.af9.f (by omega) m (by omega)).mono;rintro e w3 ⟨rfl,a⟩;have r:=hide (l.fed a);have i:=hide (((fC.fed (d:=d) (v:=st.v) c).trans (fC.fed j)).trans (fC.fed a));go_wp2_with fail;exact⟨rfl,rfl,_,r.o,i.o⟩
 ·apply(dL f g off cap z q 16 B w1 b.feed b.src b.af9.f (by omega) n (by omega)).mono;rintro e w3 ⟨rfl,a⟩;have r:=hide (b.fed a);have i:=hide ((fC.fed (d:=d) (v:=st.v) c).trans (fC.fed a));go_wp2_with fail;exact⟨rfl,rfl,_,r.o,i.o⟩
def aA1 (r:R (aD×aD))(d f base g off cap z:Nat)(B:aD)(st:iH)(w:aH)(e:Ending)(w':aH):Prop:=
 match r with
 | .ok ab q=>e= .returned (V 0)/\∃st',st'.v=st.v/\(st'.out=st.out/\st'.fresh=st.fresh)/\st'.room=st.room/\st'.place=2/\st'.last=st.last/\st'.left=st.left/\st'.fx=st.fx/\mF w' d f base g off cap z B st' q/\(ab.1.length<=1000->ab.2.length<=1000->WB w' d f st.v st' ab.1 ab.2)/\fC d f w st.v w' st.v
 | .no x=>e= .returned (V (x:Nat))/\∃q,mF w' d f base g off cap z B st q/\fC d f w st.v w' st.v
 | .miss=>e=lost/\∃q,mF w' d f base g off cap z B st q/\fC d f w st.v w' st.v
def zL (h:bW B p= .no e):e≠0:=by
 unfold bW at h;split at h
 ·dsimp only at h;split at h
  ·simp only[R.no.injEq]at h;omega
  ·split at h
   ·split at h
    ·split at h
     ·unfold pI at h;split at h
      ·simp at h
      ·simp only[R.no.injEq]at h;omega
     ·rename_i b a;simp only[R.no.injEq]at h;have:=G8 _ _ _ _ _ _ _ a;omega
     ·simp at h
    ·simp only[R.no.injEq]at h;omega
   ·simp at h
 ·simp at h
def ZT (d f base g off cap z p:Nat)(B:aD)(st:iH)(w:aH)(h:mF w d f base g off cap z B st p)(hp:p<=8*B.length)(hO:bL w)(K:4<=f)(M:∃x,st.sm= .map x)(R:∃x,st.dm= .map x):Calls prog 195 #[E d] w fun e w'=>aA1 (bW B p) d f base g off cap z B st w e w':=by
 obtain⟨c0,_⟩:=h.dec.cell;obtain⟨x1,A⟩:=M;obtain⟨x2,J⟩:=R;have a:=TG f g off cap z p B w h.feed h.src h.af9.f hO K hp;obtain⟨res,r⟩:=aP (bW B p);rw[<-r]at a|-
 have F:∀x,res= .no x->x≠0:=fun x D=>zL (by rw[<-r,D]);have j:=hide a;have P:=hide A;clear A a r;go_enter func195,ntmps195;go_wp2_with fail;cases hr:res with
 |miss=>
  have a:=j.o;rw[hr]at a;apply a.mono;rintro e w1 ⟨rfl,q,b⟩;have C:=hide (h.fed b);have Q:=hide (fC.fed (d:=d) (v:=st.v) b);go_wp2_with fail;rw[hr];exact⟨rfl,rfl,_,C.o,Q.o⟩
 |no x=>
  have D:=F x hr;have a:=j.o;rw[hr]at a;apply a.mono;rintro e w1 ⟨rfl,q,b⟩;have ac:((x:Int) !=0)=true:=by rw[jP];omega
  have C:=hide (h.fed b);have Q:=hide (fC.fed (d:=d) (v:=st.v) b);clear b a D;unfold yE;go_wp2_with fail;go_ret;rw[hr];have Z:∀o,mF (w1.alloc o) d f base g off cap z B st q:=fun o=>C.o.step0 ((aU (fun _=>False) _).alloc _);exact⟨rfl,q,Z _,Q.o.alloc _⟩
 |ok W q=>
  have a:=j.o;rw[hr]at a;apply a.mono;rintro e w1 ⟨⟨mb,x,rfl,y,l,n⟩,b⟩;obtain⟨m,s⟩:=aP ((aI W.1).longest);obtain⟨l2,t⟩:=aP ((aI W.2).longest);rw[<-s,<-t];have i:=h.fed b;obtain⟨_,_,_,k3,_,_,k6,k7,k8,k9,_⟩:=i.dec.cell;rw[P.o]at k6;rw[J]at k8;have f3:=i.dec.free 4;have f6:=i.dec.free 7;have f7:=i.dec.free 8;have f8:=i.dec.free 9;have f9:=i.dec.free 10;have ad:=aO i.dec.blk;have T:=l.lt;have C:=hide i;have L:=hide n;have I:=hide s;have G:=hide t;have aa:¬w1.heap.size=d:=by omega
  have ae:=aO h.dec.blk;have oo:∀k,w.heap.size<=k->tK d f st.v k:=fun k hk=>by
   have z1:=h.dec.ag2;have z2:=h.dec.as5;have z3:=h.dec.af8;exact⟨by omega,by omega,fun D=>by have z4:=(h.dec.own.lt k D).2;omega⟩
  clear i n s t a j;go_wp2_with fail;go_ret;rw[hr];have c:fC d f w1 st.v _ st.v:=(((((fC.setCell d f w1 st.v 7 (.map (some mb))).trans (fC.setCell d f _ st.v 8 (V (m:Nat)))).trans (fC.setCell d f _ st.v 9 (.map x))).trans (fC.setCell d f _ st.v 10 (V (l2:Nat)))).trans (fC.setCell d f _ st.v 4 (V 2))).alloc (.cells #[.map (some mb),V (m:Nat), .map x,V (l2:Nat)] 125);refine⟨rfl,{ st with sm:= .map (some mb),sl:=m,dm:= .map x,dl:=l2,place:=2 },rfl,⟨rfl,rfl⟩,rfl,rfl,rfl,rfl,rfl,?_,fun N H=> ?_,(fC.fed b).trans c⟩
  ·have a1:=C.o.set (st':={ st with sm:= .map (some mb) }) 7 (.map (some mb)) (by simp[iH.cells]) rfl rfl;have a2:=a1.set (st':={ st with sm:= .map (some mb),sl:=m }) 8 (V (m:Nat)) (by simp[iH.cells]) rfl rfl;have a3:=a2.set (st':={ st with sm:= .map (some mb),sl:=m,dm:= .map x }) 9 (.map x) (by simp[iH.cells]) rfl rfl;have a4:=a3.set (st':={ st with sm:= .map (some mb),sl:=m,dm:= .map x,dl:=l2 }) 10 (V (l2:Nat)) (by simp[iH.cells]) rfl rfl;have a5:=a4.set (st':={ st with sm:= .map (some mb),sl:=m,dm:= .map x,dl:=l2,place:=2 }) 4 (V 2) (by simp[iH.cells]) rfl rfl;exact a5.step0 ((aU (fun _=>False) _).alloc _)
  ·refine⟨⟨mb,rfl,l.step c.step (oo mb y).not,oo mb y⟩,I.o,⟨x,rfl,?_⟩,G.o,N,H⟩;rcases L.o with Y|⟨m2,X,u,S⟩
   ·exact .inl Y
   ·exact .inr ⟨m2,X,S.step c.step (oo m2 u).not,oo m2 u⟩
end Go.Proofs.YtbpahojchgpdnaaGreatDoor
namespace Go.Proofs.YtbpahojchgpdnaaGreatDoor
open Go.RowKit Go.dM Go.Proofs.Tryz
variable {w:aH} {e g k p q:Nat} {B out:aD}
structure Same (b:bY)(s:XS)(G:GS):Prop where
 err:s.err=0
 out:s.out=G.out
 most:s.most=G.most
 lim:s.most<=1048576
 bits:s.at_<=8*b.size
def rG (B:aD)(k e:Nat)(out:aD)(q:Nat)(last:Bool)(s':XS):Prop:=
 (s'.err≠0/\s'.err=e/\s'.out=out)\/(s'.err=0/\∃k' G',k'<k/\eZ B k' G' e out q/\G'.out=s'.out/\G'.most=s'.most/\((last=false/\G'.place=0/\G'.p=s'.at_)\/(last=true/\G'.place=3/\G'.p=(s'.at_+7)/8*8)))
def _root_.Go.dM.eZ.qQ {s:GS}(h:eZ B k s e out q)(c:Nat)(b:aD)(hs:bM B s= .no c b)(d:s.place≠3):e=c/\out=b:=by
 rcases h.inv with⟨a,_⟩|⟨_,a,_⟩|⟨_,a,_⟩|⟨_,_,_,_,a,_⟩
 ·exact absurd a d
 ·rw[hs]at a;cases a;exact⟨rfl,rfl⟩
 ·rw[hs]at a;cases a
 ·rw[hs]at a;cases a
def _root_.Go.dM.eZ.wN {s:GS}(h:eZ B k s e out q)(hs:bM B s= .miss)(b:s.place≠3):e=3/\out=s.out:=by
 rcases h.inv with⟨a,_⟩|⟨_,a,_⟩|⟨_,_,a,c,_⟩|⟨_,_,_,_,a,_⟩
 ·exact absurd a b
 ·rw[hs]at a;cases a
 ·exact⟨a,c⟩
 ·rw[hs]at a;cases a
def _root_.Go.dM.eZ.LY {s b:GS}(h:eZ B k s e out q)(hs:bM B s= .go b)(c:s.place≠3):∃m,k=m+1/\eZ B m b e out q:=by
 rcases h.inv with⟨a,_⟩|⟨_,a,_⟩|⟨_,a,_⟩|⟨m,f,hk,_,a,d⟩
 ·exact absurd a c
 ·rw[hs]at a;cases a
 ·rw[hs]at a;cases a
 ·rw[hs]at a;cases a;exact⟨m,hk,d⟩
def TB {G:GS}{s':XS}(d:eZ B k (G.ended p) e out q)(a:Nat)(hk:k<a)(c:s'.err=0)(b:G.out=s'.out)(f:G.most=s'.most)(hp:p=s'.at_):rG B a e out q G.last s':=by
 refine .inr ⟨c,k,G.ended p,hk,d,b,f,?_⟩;unfold GS.ended;cases hl:G.last with
 |false=>exact .inl ⟨rfl,by simp,by simp[hp]⟩
 |true=>exact .inr ⟨rfl,by simp,by simp[hp]⟩
def EJ (b:bY)(s:XS)(a:s.err=0)(d:s.at_<=8*b.size)(n m:Nat)(h:8*b.size<s.at_+n+m):(cB b (cB b s n).2 m).2={ s with at_:=8*b.size,err:=3 }:=by
 by_cases c:s.at_+n<=8*b.size
 ·rw[jH b s a n c];exact j3 b { s with at_:=s.at_+n } a c m (by dsimp only;omega)
 ·rw[j3 b s a d n (by omega),oD b _ (by dsimp only;omega) m]
def mG (G:GS)(last:Bool)(left:Nat)(s:XS):GS:={ G with last:=last,left:=left,place:=1,out:=s.out,p:=s.at_ }
def TT (B:aD)(k e:Nat)(out:aD)(q:Nat)(G:GS)(last:Bool)(left:Nat)(s2:XS):Prop:=
 (s2.err=0/\s2.most=G.most/\∃m,m<k/\eZ B m (mG G last left s2) e out q)\/(s2.err≠0/\s2.err=e/\s2.out=out)
def Xc {b:bY}{G:GS}{last:Bool}{left:Nat}{a:XS}(h:TT (bytesOf b) k e out q G last (left+1) a)(l:a.err=0)(y:a.at_<=8*b.size)(u:aK)(i:a.out.length<=a.most):TT (bytesOf b) k e out q G last left (qR (cB b a 8).1 (cB b a 8).2 u)/\(qR (cB b a 8).1 (cB b a 8).2 u).out.length<=(qR (cB b a 8).1 (cB b a 8).2 u).most:=by
 rcases h with⟨_,x,m,C,o⟩|⟨z,_⟩
 case inr=>exact absurd l z
 have j:=bytesOf_length b;have c:bM (bytesOf b) (mG G last (left+1) a)=nO (bytesOf b) (mG G last (left+1) a):=by unfold bM mG;rw[aA rfl]
 unfold nO at c;rw[aB (by unfold mG;simp)]at c;have n:(mG G last (left+1) a).place≠3:=by unfold mG;simp
 by_cases d:a.at_+8<=8*b.size
 ·rw[aA (by unfold mG;rw[j];exact d)]at c;rw[jH b a l 8 d];unfold qR;dsimp only;rw[aB (by omega)];unfold mM mG at c;dsimp only at c;by_cases f:a.out.length<a.most
  ·rw[aA (by simp;omega)]at c;rw[aA f];obtain⟨A,v,t⟩:=o.LY (by unfold mG;exact c) n;refine⟨.inl ⟨l,x,A,by omega,?_⟩,by simp;omega⟩;unfold mG;exact t
  ·rw[aB (by simp;omega)]at c;rw[aB f];obtain⟨r,s⟩:=o.qQ _ _ (by unfold mG;exact c) n;refine⟨.inr ⟨by simp,r.symm,?_⟩,i⟩;rw[s];have:G.most-a.out.length=0:=(by omega);rw[this];simp
 ·rw[aB (by unfold mG;rw[j];exact d)]at c;rw[j3 b a l y 8 (by omega)];obtain⟨r,s⟩:=o.wN c n;unfold qR;dsimp only;rw[aA (by omega)];exact⟨.inr ⟨by simp,r.symm,by rw[s];rfl⟩,i⟩
structure Gv (w wr:aH)(x base k e:Nat)(b:bY)(out:aD)(q:Nat)(G:GS)(last:Bool)(s:XS)(left:Nat)(s2:XS):Prop where
 rel:TT (bytesOf b) k e out q G last left s2
 most:s2.most=s.most
 name:s2.name=s.name
 room:s2.out.length<=s2.most
 xat:j6 wr x base b s2
 wrt:dH x w s.v wr s2.v
def sQ (c:Nat)(s:XS)(a:aK):(qR c s a).most=s.most/\(qR c s a).name=s.name:=by
 unfold qR;split
 ·exact⟨rfl,rfl⟩
 ·split<;>exact⟨rfl,rfl⟩
def ah6 {b:bY}{G:GS}{last:Bool}{a:XS}(h:TT (bytesOf b) k e out q G last 0 a):rG (bytesOf b) k e out q last a:=by
 rcases h with⟨d,n,m,f,i⟩|h
 ·have j:bM (bytesOf b) (mG G last 0 a)= .go ((mG G last 0 a).ended a.at_):=by
   unfold bM nO;rw[aA (show(mG G last 0 a).place=1 from rfl),aA (show(mG G last 0 a).left=0 from rfl)];rfl
  obtain⟨o,l,c⟩:=i.LY j (by unfold mG;simp);exact TB c k (by omega) d rfl n.symm rfl
 ·exact .inl h
def Gw (x base k e:Nat)(b:bY)(s:XS)(G:GS)(out:aD)(q:Nat)(w:aH)(h:j6 w x base b s)(f:Same b s G)(hp:s.at_=G.p+3)(h1:G.place≠1)(h2:G.place≠2)(h3:G.place≠3)(hk:aG (bytesOf b) (G.p+1) 2=0)(hr:eZ (bytesOf b) k G e out q)(aa:s.out.length<=s.most):Calls prog 141 #[E x] w fun r w'=>r= .returned (.tuple #[])/\∃s',rG (bytesOf b) k e out q (bK (bytesOf b) G.p==1) s'/\s'.name=s.name/\s'.most=s.most/\s'.out.length<=s'.most/\j6 w' x base b s'/\dH x w s.v w' s'.v:=by
 have z:bM (bytesOf b) G=kL (bytesOf b) G:=by unfold bM;rw[aB h1,aB h2]
 have ad:=bytesOf_length b;unfold kL at z;rw[aA (by rw[ad];have:=f.bits;omega),aA hk]at z;rw[ad,<-hp]at z;obtain⟨p0,X⟩:=aP ((s.at_+7)/8*8);rw[<-X]at z;have au:=f.bits;have ay:p0<=8*b.size:=by omega
 have ar:=hide X;have ab:=f.lim;clear X;go_enter func141,ntmps141;go_wp2_with fail;apply(Fz x base b s w h).mono;rintro r w1 ⟨rfl,P,Y⟩;rw[<-ar.o]at P;go_wp2_with fail;apply(gD x base 16 b _ w1 P (by omega)).mono;rintro r w2 ⟨rfl,W,K⟩;go_wp2_with fail;apply(gD x base 16 b _ w2 W (by omega)).mono;rintro r w3 ⟨rfl,a,H⟩;rw[(pW b _ 16).1]at H;dsimp only at K H;have t:=(Y.trans K).trans H;have aj:=jM b { s with at_:=p0 } 16;have al:=jM b (cB b { s with at_:=p0 } 16).2 16;obtain⟨last,d⟩:=aP ((bK (bytesOf b) G.p==1));have F:=hide d;have L:(8*b.size<p0+32)\/(p0+32<=8*b.size/\aG (bytesOf b) (p0+16) 16≠65535-aG (bytesOf b) p0 16)\/(p0+32<=8*b.size/\aG (bytesOf b) (p0+16) 16=65535-aG (bytesOf b) p0 16):=by
  by_cases A:p0+32<=8*b.size
  ·by_cases h8:aG (bytesOf b) (p0+16) 16=65535-aG (bytesOf b) p0 16
   ·exact .inr (.inr ⟨A,h8⟩)
   ·exact .inr (.inl ⟨A,h8⟩)
  ·exact .inl (by omega)
 have z:=z;rw[<-d]at z;rcases L with M|⟨M,an⟩|⟨M,ao⟩
 focus
  have e3:=EJ b { s with at_:=p0 } f.err ay 16 16 (by dsimp only;omega);rw[e3]at a;rw[aB (by omega)]at z;obtain⟨he,ho⟩:=hr.wN z h3;have D:=hide (show Gv w w3 x base k e b out q G last s (cB b { s with at_:=p0 } 16).1 { s with at_:=8*b.size,err:=3 } from⟨.inr ⟨by simp,he.symm,by rw[ho];exact f.out⟩,rfl,rfl,aa,a,t⟩);obtain⟨_,_,c2,_⟩:=a.cell;dsimp only at c2;clear a P W Y K H t e3 he ho;generalize(cB b { s with at_:=p0 } 16).1=n at*;generalize(cB b (cB b { s with at_:=p0 } 16).2 16).1=m at*;clear d
 rotate_left;focus
  have e1:=jH b { s with at_:=p0 } f.err 16 (by dsimp only;omega);have e2:=jH b { s with at_:=p0+16 } f.err 16 (by dsimp only;omega);rw[e1]at a|-
  dsimp only at a|-
  rw[e2]at a|-
  dsimp only at a|-
  rw[aA M,aB an]at z;obtain⟨he,ho⟩:=hr.qQ _ _ z h3;obtain⟨_,_,c2,_⟩:=a.cell;dsimp only at c2;rw[f.err]at c2;have ax:=bO (bytesOf b) p0 16;have bb:=bO (bytesOf b) (p0+16) 16;generalize aG (bytesOf b) p0 16=n at*;generalize aG (bytesOf b) (p0+16) 16=m at*;have af:(((n:Int)+(m:Int)) !=65535)=true:=by rw[jP];omega
  go_wp2_with fail;apply(iK x base 6 b _ w3 a).mono;rintro r w4 ⟨rfl,N,R⟩;dsimp only at N R;rw[aA f.err]at N;have D:=hide (show Gv w w4 x base k e b out q G last s n { s with at_:=p0+16+16,err:=6 } from⟨.inr ⟨by simp,he.symm,by rw[ho];exact f.out⟩,rfl,rfl,aa,N,t.trans R⟩);clear N R he ho af
 rotate_left;focus
  have e1:=jH b { s with at_:=p0 } f.err 16 (by dsimp only;omega);have e2:=jH b { s with at_:=p0+16 } f.err 16 (by dsimp only;omega);rw[e1]at a|-
  dsimp only at a|-
  rw[e2]at a|-
  dsimp only at a|-
  rw[aA M,aA ao]at z;obtain⟨k1,aw,ah⟩:=hr.LY z h3;obtain⟨_,_,c2,_⟩:=a.cell;dsimp only at c2;rw[f.err]at c2;have ax:=bO (bytesOf b) p0 16;have D:=hide (show Gv w w3 x base k e b out q G last s (aG (bytesOf b) p0 16) { s with at_:=p0+16+16 } from⟨.inl ⟨f.err,f.most,k1,by omega,by
   unfold mG;dsimp only;rw[f.out];exact ah⟩,rfl,rfl,aa,a,t⟩)
  clear P W Y K H d aj al e1 e2 ah aw;generalize aG (bytesOf b) p0 16=n at*;generalize aG (bytesOf b) (p0+16) 16=m at*;have af:(((n:Int)+(m:Int)) !=65535)=false:=by rw[tY];omega
 all_goals
  go_wp2_with fail;go_loopw [4] (fun i wr=>∃(j:Nat) (I:XS),j<=n/\i=V j/\Gv w wr x base k e b out q G last s (n-j) I) (fun i _=>n-(intOf i).toNat);case atStart=>exact⟨0,_,by omega,rfl,D.o⟩
  case round=>
   obtain⟨j,I,hj,rfl,hrel⟩:=hrel;obtain⟨_,_,c2,_⟩:=hrel.xat.cell;by_cases az:j<n
   ·by_cases T:I.err=0
    ·rw[T]at c2;have C:=gD x base 8 b I wr hrel.xat (by omega);have ac:=jM b I 8;have y:=pW b I 8;have S:=fun u=>Xc (left:=n-(j+1)) (by have:=hrel.rel;rw[show n-j=(n-(j+1))+1 by omega]at this;exact this) T hrel.xat.there u hrel.room;obtain⟨c,J,L⟩:∃c J,cB b I 8=(c,J):=⟨_,_,rfl⟩
     rw[L]at C ac y;have Q:∀u,TT (bytesOf b) k e out q G last (n-(j+1)) (qR c J u)/\(qR c J u).out.length<=(qR c J u).most:=fun u=>by
      have A:=S u;rw[L]at A;exact A
     dsimp only at C ac y;have l:=hide Q;have ap:=hrel.most;go_wp2_with fail;apply C.mono;rintro r w5 ⟨rfl,aq,av⟩;have ak:=QG x base c b J w5 aq (by rw[y.2.2.1,ap];exact ab);have ae:=hide (hrel.wrt.trans av);go_wp2_with fail;apply ak.mono;rintro r w6 ⟨rfl,u,ag,Z⟩;rw[y.1]at Z;have ai:=hide (show Gv w w6 x base k e b out q G last s (n-(j+1)) (qR c J u) from⟨(l.o u).1,(sQ c J u).1.trans (y.2.2.1.trans hrel.most),(sQ c J u).2.trans (y.2.2.2.trans hrel.name),(l.o u).2,ag,ae.o.trans Z⟩);clear ag Z l ae;go_wp2_with fail;exact⟨⟨j+1,_,by omega,by go_num,ai.o⟩,by simp[intOf];omega⟩
    ·have ba:((I.err:Int)==0)=false:=aX.2 (by omega);go_wp2_with fail;go_end0;refine⟨rfl,I,?_,hrel.name,hrel.most,hrel.room,hrel.xat,hrel.wrt⟩;rw[<-F.o];rcases hrel.rel with⟨A,_⟩|A
     ·exact absurd A T
     ·exact .inl A
   ·have am:j=n:=(by omega);subst am;go_wp2_with fail;go_end0;refine⟨rfl,I,?_,hrel.name,hrel.most,hrel.room,hrel.xat,hrel.wrt⟩;rw[<-F.o];have A:=hrel.rel;rw[uL]at A;exact ah6 A
def QL {w1:aH}{base R n:Nat}(c:w1.ownsRow base 3 1 (.slice (some (U R 0)) n n) n (madeCells (V 0).cells (n*1)).toList):bA w1 R 3 n (fun _=>nat 0):=by
 obtain⟨_,⟨d,_⟩|⟨r,j,a,d,_,hh,_,_,b,f⟩⟩:=c
 ·cases d
 ·cases d;refine⟨a,hh,by rw[b];omega,fun i o=> ?_⟩;have l:a.toList=(madeCells (V 0).cells (n*1)).toList:=by
   rw[<-f,kW (by rw[IE,b];exact aS _)]
  have m:a=madeCells (V 0).cells (n*1):=Array.toList_inj.1 l;rw[m];unfold madeCells;rw[Array.getElem?_map,Array.getElem?_range,aA (by omega)];show some ((#[V 0]:Array aK)[i%1]!)=_;rw[Nat.mod_one];rfl
def MV {R n:Nat}{L:aD}(h:bA w R 3 n (fun i=>nat (L[i]?.getD 0)))(hn:L.length=n)(a:∀i:Nat,L[i]?.getD 0<=15)(b:n<=1000):Ints w R 0 L:=⟨fun i hi=>by rw[dS];exact h.cell i (by omega),a,by omega⟩
def Mc (w:aH):Calls prog 142 #[] w fun e w'=>∃W Q,e= .returned (.tuple #[.slice (some (U W 0)) 288 288, .slice (some (U Q 0)) 32 32])/\w.heap.size<=W/\w.heap.size<=Q/\bA w' W 234 (2*288) (iY (gP gK))/\bA w' Q 234 (2*32) (iY (gP fM))/\O w w':=by
 obtain⟨i0,hi,ag,Z,ah⟩:=eD info3;have A:=aU (fun _=>False) w;go_enter func142,ntmps142;go_wp2_with (at_make;refine sD _ rfl _ _ 57 rfl w.heap.size 3 i0 (V 0) 1 underlying57 hi ag Z .i64 .i64 _ _ 288 rfl rfl rfl rfl (by rw[ah];omega) (by unfold maxLen;omega) (aS _) ?_;intro w1 j G);have a:=QL j;have b:O w w1:=A.grown G (fun k hk=>by cases hk);obtain⟨R,hR⟩:=aP w.heap.size;rw[<-hR]at a|-
 have m:w.heap.size<=R:=by omega
 clear j G hR A;go_loopw [3] (fun i wr=>∃k:Nat,k<=288/\i=V (k:Nat)/\bA wr R 3 288 (fun i=>nat (if i<k then yS i else 0))/\O w wr) (fun i _=>288-(intOf i).toNat);case atStart=>exact⟨0,by omega,rfl,a.congr (fun i _=>by simp),b⟩
 case round=>
  obtain⟨k,hk,rfl,a,b⟩:=hrel;by_cases X:k<288
  ·have au:=hide a;have z:=a.cell k X;have fz:=a.free k;have aj:(0:Int)<=(k:Int):=(by omega);have ao:(k:Int)<288:=(by omega);have ac:∀u,u=yS k->bA (wr.setCell (U R k) (V (u:Nat))) R 3 288 (fun i=>nat (if i<k+1 then yS i else 0)):=fun u hu=>by
    refine(a.set k (V (u:Nat))).congr fun i _=> ?_;by_cases f:i=k
    ·rw[aA f,aA (by omega),hu,f]
    ·rw[aB f];by_cases v:i<k
     ·rw[aA v,aA (by omega)]
     ·rw[aB v,aB (by omega)]
   have c:=hide ac;by_cases h1:k<144
   ·have N:yS k=8:=(by unfold yS;rw[aA h1]);have M:=hide N;go_wp2_with fail;exact⟨⟨k+1,by omega,by go_num,c.o 8 M.o.symm,b.aZ m _⟩,by simp[intOf];omega⟩
   by_cases v:k<256
   ·have N:yS k=9:=(by unfold yS;rw[aB h1,aA v]);have M:=hide N;go_wp2_with fail;exact⟨⟨k+1,by omega,by go_num,c.o 9 M.o.symm,b.aZ m _⟩,by simp[intOf];omega⟩
   by_cases h3:k<280
   ·have N:yS k=7:=(by unfold yS;rw[aB h1,aB v,aA h3]);have M:=hide N;go_wp2_with fail;exact⟨⟨k+1,by omega,by go_num,c.o 7 M.o.symm,b.aZ m _⟩,by simp[intOf];omega⟩
   ·have N:yS k=8:=(by unfold yS;rw[aB h1,aB v,aB h3,aA X]);have M:=hide N;go_wp2_with fail;exact⟨⟨k+1,by omega,by go_num,c.o 8 M.o.symm,b.aZ m _⟩,by simp[intOf];omega⟩
  ·have:k=288:=(by omega);subst this;have s:Ints wr R 0 gK:=MV (n:=288) (a.congr (fun i t=>by rw[aA t,kS,nY])) (by rw[kS,dP]) (fun i=>by rw[kS];exact vX i) (by omega);have ai:=hide s;have ar:=hide b;have az:=a.lt;clear a b s;go_wp2_with (at_make;refine sD _ rfl _ _ 57 rfl wr.heap.size 3 i0 (V 0) 1 underlying57 hi ag Z .i64 .i64 _ _ 32 rfl rfl rfl rfl (by rw[ah];omega) (by unfold maxLen;omega) (aS _) ?_;intro w2 l F);have d:=QL l;have D:O wr w2:=(aU _ wr).grown F (fun k hk=>by cases hk);obtain⟨T,hT⟩:=aP wr.heap.size;rw[<-hT]at d|-
   have ap:wr.heap.size<=T:=(by omega);clear l F hT;go_loopw [5] (fun i w3=>∃k:Nat,k<=32/\i=V (k:Nat)/\bA w3 T 3 32 (fun i=>nat (if i<k then 5 else 0))/\O wr w3) (fun i _=>32-(intOf i).toNat);case atStart=>exact⟨0,by omega,rfl,d.congr (fun i _=>by simp),D⟩
   case round=>
    clear d D;obtain⟨k,ax,rfl,a,b⟩:=hrel;by_cases S:k<32
    ·have af:=hide b;have z:=a.cell k S;have fz:=a.free k;have aj:(0:Int)<=(k:Int):=(by omega);have ao:(k:Int)<32:=(by omega);have c:=hide (show bA (wr.setCell (U T k) (V 5)) T 3 32 (fun i=>nat (if i<k+1 then 5 else 0)) from by
      refine(a.set k (V 5)).congr fun i _=> ?_;by_cases f:i=k
      ·rw[aA f,aA (by omega)];rfl
      ·rw[aB f];by_cases v:i<k
       ·rw[aA v,aA (by omega)]
       ·rw[aB v,aB (by omega)])
     clear a b;go_wp2_with fail;exact⟨⟨k+1,by omega,by go_num,c.o,af.o.aZ ap _⟩,by simp[intOf];omega⟩
    ·have:k=32:=(by omega);subst this;have aq:Ints wr T 0 fM:=MV (n:=32) (a.congr (fun i t=>by rw[aA t];unfold fM;rw[lY,aA t];rfl)) (by unfold fM;rw[dQ]) (fun i=>by unfold fM;rw[lY];split<;>simp) (by omega);have s:=ai.o.step b (fun y=>y);have x:=ar.o.trans b;have ab:gK.length=288:=(by rw[kS,dP]);have am:fM.length=32:=(by unfold fM;rw[dQ]);have ad:=xU R 0 288 gK wr s;rw[ab]at ad;have ak:=hide aq;have Y:=hide am;go_wp2_with fail;apply ad.mono;rintro r w5 ⟨W,rfl,ba,L,I⟩;have P:=xU T 0 32 fM w5 (ak.o.step I (fun y=>y));rw[Y.o]at P;have al:=hide P;have C:=x.trans I;have ae:=hide C;have aw:=C.size;have av:=x.size;go_wp2_with fail;apply al.o.mono;rintro r w6 ⟨Q,rfl,ay,K,H⟩;have J:=hide K;have an:=hide (L.step H (fun y=>y));have aa:=hide (ae.o.trans H);go_wp2_with fail;go_ret2;exact⟨W,Q,rfl,by omega,by omega,an.o,J.o,aa.o⟩
end Go.Proofs.YtbpahojchgpdnaaGreatDoor
