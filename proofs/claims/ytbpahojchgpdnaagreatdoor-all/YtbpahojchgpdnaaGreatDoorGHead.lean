import Derived.Test.YtbpahojchgpdnaaGreatDoorXLens
set_option maxRecDepth 20000
set_option maxHeartbeats 4000000
set_option linter.all false
namespace Go.Proofs.YtbpahojchgpdnaaGreatDoor
open Go.RowKit Go.dM Go.Maps Go.Proofs.Tryz
variable {w:aH} {e g k p q:Nat} {B out:aD}
def xW {w':aH}{o x:Obj}(a:w.heap[g]? =some x)(h:Below (w.alloc o).heap.size (w.alloc o) w'):w'.heap[g]? =some x:=by have b:=aO a;exact(h.block g (by simp;omega)).trans ((dG _ _ _ b).trans a)
def one_cell (w:aH)(v:aK)(t:TypeId):(w.alloc (.cells #[v] t)).cell? (U w.heap.size 0)=some v:=by rw[World.cell?_alloc_at (hn:=rfl)];rfl
def yG {w0 w':aH}{o:Obj}(a:O w0 w)(h:Below (w.alloc o).heap.size (w.alloc o) w'):O w0 w':=(a.alloc o).trans ⟨h.os,h.tape,h.output,h.size,fun k hk _=>h.block k hk⟩
def Jc (w:aH)(a b c d:Nat×Nat×Nat)(t:TypeId)(j:Nat)(r:Nat×Nat×Nat)(h:[a,b,c,d][j]? =some r):(w.alloc (.cells #[L6 a,L6 b,L6 c,L6 d] t)).cell? (U w.heap.size j)=some (L6 r):=by
 rw[World.cell?_alloc_at (hn:=rfl)];match j,h with
 |0,h=>cases h;rfl
 |1,h=>cases h;rfl
 |2,h=>cases h;rfl
 |3,h=>cases h;rfl
 |j+4,h=>simp at h
def E5 {o x:Obj}(a:w.heap[g]? =some x):(w.alloc o).heap[g]? =some x:=(dG _ _ _ (aO a)).trans a
def zZ (w:aH):Calls prog 102 #[] w fun e w'=>∃S T c:Nat,e= .returned (.tuple #[.slice (some (U S 0)) 288 c, .slice (some (U T 0)) 32 32])/\Ints w' S 0 aW/\Ints w' T 0 (List.replicate 32 5)/\O w w':=by
 have A:=aU (fun _=>False) w;go_enter func102,ntmps102;go_wp2_with fail;apply(yF w.heap.size 8 144 1 (w.alloc _) (one_cell _ _ _) (by decide) (by decide) (by decide)).mono;rintro e w1 ⟨W,rfl,aa,L,j⟩;have C:=yG A j;go_wp2_with fail;apply(yF w1.heap.size 9 112 1 (w1.alloc _) (one_cell _ _ _) (by decide) (by decide) (by decide)).mono;rintro e w2 ⟨X,rfl,ab,M,d⟩;have D:=yG C d;have n:=hide (xW L d);go_wp2_with fail;apply(yF w2.heap.size 7 24 1 (w2.alloc _) (one_cell _ _ _) (by decide) (by decide) (by decide)).mono;rintro e w3 ⟨Y,rfl,ac,N,b⟩;have F:=yG D b;have s:=hide (xW n.o b);have u:=hide (xW M b);go_wp2_with fail;apply(yF w3.heap.size 8 8 1 (w3.alloc _) (one_cell _ _ _) (by decide) (by decide) (by decide)).mono;rintro e w4 ⟨Z,rfl,ad,P,a⟩;have G:=yG F a;have t:=hide (xW s.o a);have v:=hide (xW u.o a);have y:=hide (xW N a);go_wp2_with fail;apply(Rn w4.heap.size 4 4 [(W,8,144),(X,9,112),(Y,7,24),(Z,8,8)] (w4.alloc _) rfl (by decide) (by decide) (by decide) (Jc _ _ _ _ _ _) ?cb ?cp ?cr).mono;case cb=>
  intro r i;simp only[fE,wQ,or_false]at i;rcases i with rfl|rfl|rfl|rfl
  ·exact E5 t.o
  ·exact E5 v.o
  ·exact E5 y.o
  ·exact E5 P
 case cp=>
  intro r i;simp only[fE,wQ,or_false]at i;rcases i with rfl|rfl|rfl|rfl<;>simp only[]<;>omega
 case cr=>
  intro r i;simp only[fE,wQ,or_false]at i;rcases i with rfl|rfl|rfl|rfl<;>simp only[]<;>omega
 rintro e w5 ⟨c5,rfl,f,l⟩;rw[Qm,ak7]at f;rw[Qm];have H:=yG G l;have R:Ints w5 (w4.heap.size+1) 0 aW:=VL (by
  have:=f.cells rfl;rw[show(World.alloc w4 _).heap.size=w4.heap.size+1 by simp]at this;exact this) vX (by rw[dP];decide)
 go_wp2_with fail;apply(yF w5.heap.size 5 32 1 (w5.alloc _) (one_cell _ _ _) (by decide) (by decide) (by decide)).mono;rintro e w7 ⟨g5,rfl,ae,Q,m⟩;have z:O w5 w7:=yG (aU (fun _=>False) w5) m;have I:=hide (R.step z (fun x=>x));have J:=hide (aa6 Q);have K:=hide (H.trans z);go_wp2_with fail;go_ret2;exact⟨_,_,_,rfl,I.o,J.o,K.o⟩
def RH (w:aH):Calls prog 204 #[] w fun e w'=>∃R mb f dl:Nat,e= .returned (E R)/\w.heap.size<=R/\w'.heap[R]? =some (.cells #[.map (some mb),V ((aI aW).longest:Nat), .map (some f),V (dl:Nat)] 125 (0,0))/\w.heap.size<=mb/\TabAt w' mb (aI aW).tab/\w.heap.size<=f/\TabAt w' f (aI (List.replicate 32 5)).tab/\O w w'/\dl=(aI (List.replicate 32 5)).longest:=by
 go_enter func204,ntmps204;go_wp2_with fail;apply(zZ w).mono;rintro e w5 ⟨ga,gb,Z,rfl,K,L,m⟩;have t:=vD ga 0 Z aW w5 K CW;rw[dP]at t;obtain⟨lg,M⟩:=aP ((aI aW).longest);obtain⟨tb,H⟩:=aP ((aI aW).tab);rw[<-M,<-H]at t;go_wp2_with fail;apply t.mono;rintro e w6 ⟨mb,rfl,ab,r,v⟩;obtain⟨w7,l⟩:=aP (w6.alloc (.cells #[.map (some mb),V ((aI aW).longest:Nat)] 123));have i:O w6 w7:=by rw[l];exact(aU _ _).alloc _
 have F:w7.heap[w6.heap.size]? =some (.cells #[.map (some mb),V ((aI aW).longest:Nat)] 123 (0,0)):=by rw[l];exact aR _ _
 have j:=vD gb 0 32 (List.replicate 32 5) w7 ((L.step v (fun x=>x)).step i (fun x=>x)) II;rw[dQ]at j;obtain⟨dl,u⟩:=aP ((aI (List.replicate 32 5)).longest);rw[<-u]at j;have y:=hide j;have I:=hide u;have z:=hide F;have A:=hide (r.step i (fun x=>x));have d:=(m.trans v).trans i;have T:=m.size;have N:=d.size;have W:=i.size;have D:=hide l;clear j u F r v l;go_wp2_with fail;rw[<-D.o];apply y.o.mono;clear y D;rintro e w8 ⟨f,rfl,aa,s,c⟩;have C:=hide s;clear s;have b:=c.at_ z.o (fun x=>x);have J:=hide (A.o.step c (fun x=>x));have n:=d.trans c;have X:=c.size;have P:=(show w8.cell? (U w6.heap.size 0)=_ from aC b 0 _ rfl)
 have Q:=(show w8.cell? (U w6.heap.size 1)=_ from aC b 1 _ rfl)
 have S:=aO b;have Y:=hide b;clear b z A c d;have ac:=n.size;go_wp2_with fail;go_ret;have G:=(aU (fun _=>False) w8).alloc (.cells #[.map (some f),V (dl:Nat)] 123);have a:=G.alloc (.cells #[.map (some mb),V ((aI aW).longest:Nat), .map (some f),V (dl:Nat)] 125);refine⟨w8.heap.size+1,mb,f,dl,rfl,by omega,?_,by omega,?_,by omega,?_,n.trans a,I.o⟩
 ·have:=aR (w8.alloc (.cells #[.map (some f),V (dl:Nat)] 123)) (.cells #[.map (some mb),V ((aI aW).longest:Nat), .map (some f),V (dl:Nat)] 125);rw[show(w8.alloc (.cells #[.map (some f),V (dl:Nat)] 123)).heap.size=w8.heap.size+1 by simp]at this;exact this
 ·exact H▸J.o.step a (fun x=>x)
 ·exact C.o.step a (fun x=>x)
def kS:gK=aW:=rfl
def Hw {d f base off cap z b m1 m2 a l2:Nat}{st:iH}(h:mF w d f base g off cap z B st p)(r:st.fx= .pointer (some (U b 0)))(j:a=(aI gK).longest)(i:l2=(aI fM).longest)(c:w.heap[b]? =some (.cells #[.map (some m1),V a, .map (some m2),V l2] 125 (0,0)))(l:TabAt w m1 (aI gK).tab)(m:TabAt w m2 (aI fM).tab)(u:tK d f st.v b)(o1:tK d f st.v m1)(o2:tK d f st.v m2):∀w',w'=(((((w.setCell (U d 7) (.map (some m1))).setCell (U d 8) (V a)).setCell (U d 9) (.map (some m2))).setCell (U d 10) (V l2)).setCell (U d 4) (V 2))->mF w' d f base g off cap z B { st with sm:= .map (some m1),sl:=a,dm:= .map (some m2),dl:=l2,place:=2 } p/\WB w' d f st.v { st with sm:= .map (some m1),sl:=a,dm:= .map (some m2),dl:=l2,place:=2 } gK fM/\PX w' d f st.v st.fx/\fC d f w st.v w' st.v:=by
 rintro w' rfl;have n:fC d f w st.v _ st.v:=(((((fC.setCell d f w st.v 7 (.map (some m1))).trans (fC.setCell d f _ st.v 8 (V a))).trans (fC.setCell d f _ st.v 9 (.map (some m2)))).trans (fC.setCell d f _ st.v 10 (V l2))).trans (fC.setCell d f _ st.v 4 (V 2)))
 refine⟨?_,⟨⟨m1,rfl,l.step n.step o1.not,o1⟩,j,⟨some m2,rfl, .inr ⟨m2,rfl,m.step n.step o2.not,o2⟩⟩,i,by rw[kS,dP];omega,by unfold fM;rw[dQ];omega⟩,?_,n⟩
 ·have a1:=h.set (st':={ st with sm:= .map (some m1) }) 7 (.map (some m1)) (by simp[iH.cells]) rfl rfl;have a2:=a1.set (st':={ st with sm:= .map (some m1),sl:=a }) 8 (V a) (by simp[iH.cells]) rfl rfl;have s:=a2.set (st':={ st with sm:= .map (some m1),sl:=a,dm:= .map (some m2) }) 9 (.map (some m2)) (by simp[iH.cells]) rfl rfl;have t:=s.set (st':={ st with sm:= .map (some m1),sl:=a,dm:= .map (some m2),dl:=l2 }) 10 (V l2) (by simp[iH.cells]) rfl rfl;exact t.set (st':={ st with sm:= .map (some m1),sl:=a,dm:= .map (some m2),dl:=l2,place:=2 }) 4 (V 2) (by simp[iH.cells]) rfl rfl
 ·rw[j,i]at c;have o:PX w d f st.v (E b):= .inr ⟨b,m1,m2,rfl,c,l,m,u,o1,o2⟩;rw[r];exact o.step n
def Mf (d f base g off cap z p:Nat)(B:aD)(st:iH)(w:aH)(e:Ending)(w':aH):Prop:=
 e= .returned (V 0)/\∃st',st'.v=st.v/\(st'.out=st.out/\st'.fresh=st.fresh)/\st'.room=st.room/\st'.place=2/\st'.last=st.last/\st'.left=st.left/\mF w' d f base g off cap z B st' p/\WB w' d f st.v st' gK fM/\PX w' d f st.v st'.fx/\fC d f w st.v w' st.v
def NS (d f base g off cap z p b m1 m2:Nat)(B:aD)(st:iH)(w:aH)(h:mF w d f base g off cap z B st p)(u:∃x,st.sm= .map x)(t:∃x,st.dm= .map x)(c:st.fx= .pointer (some (U b 0)))(a:w.heap[b]? =some (.cells #[.map (some m1),V ((aI gK).longest:Nat), .map (some m2),V ((aI fM).longest:Nat)] 125 (0,0)))(m:TabAt w m1 (aI gK).tab)(n:TabAt w m2 (aI fM).tab)(A:tK d f st.v b)(o1:tK d f st.v m1)(o2:tK d f st.v m2):Calls prog 194 #[E d] w fun e w'=>Mf d f base g off cap z p B st w e w':=by
 obtain⟨W,r⟩:=u;obtain⟨X,s⟩:=t;obtain⟨_,_,_,R,_,_,D,S,F,T,y,_⟩:=h.dec.cell;rw[r]at D;rw[s]at F;rw[c]at y;have L:=h.dec.free 4;have M:=h.dec.free 7;have N:=h.dec.free 8;have P:=h.dec.free 9;have Q:=h.dec.free 10;obtain⟨G,j⟩:=aP ((aI gK).longest);obtain⟨l2,i⟩:=aP ((aI fM).longest);rw[<-j,<-i]at a;have b0:=(show w.cell? (U b 0)=_ from aC a 0 _ rfl)
 have b1:=(show w.cell? (U b 1)=_ from aC a 1 _ rfl)
 have b2:=(show w.cell? (U b 2)=_ from aC a 2 _ rfl)
 have K:=(show w.cell? (U b 3)=_ from aC a 3 _ rfl)
 have C:=A.d;have l:=hide (Hw h c j i a m n A o1 o2 _ rfl);clear h r s c a m n j A o1 o2 i;go_enter func194,ntmps194;go_wp2_with fail;go_ret;obtain⟨r1,H,I,J⟩:=l.o;exact⟨rfl,{ st with sm:= .map (some m1),sl:=G,dm:= .map (some m2),dl:=l2,place:=2 },rfl,⟨rfl,rfl⟩,rfl,rfl,rfl,rfl,r1,H,I,J⟩
def R7 (d f base g off cap z p:Nat)(B:aD)(st:iH)(w:aH)(h:mF w d f base g off cap z B st p)(Q:∃x,st.sm= .map x)(P:∃x,st.dm= .map x)(s:st.fx= .pointer none):Calls prog 194 #[E d] w fun e w'=>Mf d f base g off cap z p B st w e w':=by
 obtain⟨x1,A⟩:=Q;obtain⟨x2,C⟩:=P;obtain⟨_,_,_,_,_,_,_,_,_,_,D,_⟩:=h.dec.cell;rw[s]at D;have m:=hide h;have K:=hide A;have L:=hide C;clear h A C s;go_enter func194,ntmps194;go_wp2_with fail;apply(RH w).mono;rintro e w1 ⟨R,mb,M,l2,rfl,N,a,u,S,r,y,j,t⟩;have b:=m.o.step0 j;obtain⟨_,_,_,k3,_,_,k6,k7,k8,k9,T,_⟩:=b.dec.cell;rw[K.o]at k6;rw[L.o]at k8;have f3:=b.dec.free 4;have f6:=b.dec.free 7;have f7:=b.dec.free 8;have f8:=b.dec.free 9;have f9:=b.dec.free 10;have X:=b.dec.free 11;obtain⟨lg,i⟩:=aP ((aI aW).longest);rw[<-i]at a;have b0:=(show w1.cell? (U R 0)=_ from aC a 0 _ rfl)
 have b1:=(show w1.cell? (U R 1)=_ from aC a 1 _ rfl)
 have b2:=(show w1.cell? (U R 2)=_ from aC a 2 _ rfl)
 have b3:=(show w1.cell? (U R 3)=_ from aC a 3 _ rfl)
 have oo:∀k,w.heap.size<=k->tK d f st.v k:=fun k hk=>by
  have z1:=m.o.dec.ag2;have z2:=m.o.dec.as5;have z3:=m.o.dec.af8;exact⟨by omega,by omega,fun hx=>by have z4:=(m.o.dec.own.lt k hx).2;omega⟩
 have Z:=(oo R N).d;have n:fC d f w st.v w1 st.v:=fC.step0 j;have W:=hide b;have G:=hide n;have F:=hide a;have J:=hide y;have I:=hide i;have H:=hide t;have l:=hide oo;clear b a y i oo n j D t;go_wp2_with fail;go_ret;have Y:mF (w1.setCell (U d 11) (E R)) d f base g off cap z B { st with fx:=(E R) } p:=W.o.set 11 _ (by simp[iH.cells]) rfl rfl;have c:=fC.setCell d f w1 st.v 11 (E R);obtain⟨r1,r2,r3,r4⟩:=Hw (st:={ st with fx:=(E R) }) Y rfl I.o H.o (c.step.at_ F.o (l.o R N).not) (S.step c.step (l.o mb u).not) (J.o.step c.step (l.o M r).not) (l.o R N) (l.o mb u) (l.o M r) _ rfl;exact⟨rfl,{ st with fx:=(E R),sm:= .map (some mb),sl:=lg,dm:= .map (some M),dl:=l2,place:=2 },rfl,⟨rfl,rfl⟩,rfl,rfl,rfl,rfl,r1,r2,r3,(G.o.trans c).trans r4⟩
def VY (d f base g off cap z p:Nat)(B:aD)(st:iH)(w:aH)(h:mF w d f base g off cap z B st p)(c:PX w d f st.v st.fx)(b:∃x,st.sm= .map x)(a:∃x,st.dm= .map x):Calls prog 194 #[E d] w fun e w'=>Mf d f base g off cap z p B st w e w':=by
 rcases c with c|⟨i,m1,m2,j,l,e3,m,n,o,r⟩
 ·exact R7 d f base g off cap z p B st w h b a c
 ·exact NS d f base g off cap z p i m1 m2 B st w h b a j l e3 m n o r
def G8 (D:d9)(B:aD)(n:Nat):∀k p row e,iC D B n k p row= .no e->e=8\/e=9:=by
 intro k;induction k with
 |zero=>intro p row e h;simp[iC]at h
 |succ k ih=>
  intro p row e h;rw[iC]at h;split at h
  ·simp at h
  ·split at h
   ·rename_i a hs;simp only[R.no.injEq]at h;subst h;exact .inr (oU hs)
   ·simp at h
   ·split at h
    ·simp only[R.no.injEq]at h;exact .inl h.symm
    ·split at h
     ·rename_i a b;exact(J3 b).elim
     ·simp at h
     ·split at h
      ·simp only[R.no.injEq]at h;exact .inl h.symm
      ·exact ih _ _ _ h
def TG (f g off cap z p:Nat)(B:aD)(w:aH)(Z:w.heap[f]? =some (.cells #[.slice (bE g off B.length) B.length cap,V p,V z] 91 (0,0)))(hS:ay5 w g off B)(j:g≠f)(hO:bL w)(ao:4<=f)(hp:p<=8*B.length):Calls prog 205 #[E f] w fun e w'=>an6 (bW B p) f w e w':=by
 have bk:=aO Z;obtain⟨res,b⟩:=aP (bW B p);have d:=hide b;rw[<-b];clear b;go_enter func205,ntmps205;go_wp2_with fail;obtain⟨R,hR⟩:=aP w.heap.size;have aw:(w.alloc (.cells #[.map none,V 0, .map none,V 0] 125)).heap[R]? =some (.cells #[.map none,V 0, .map none,V 0] 125 (0,0)):=by rw[hR];exact aR _ _
 have F:=lV.vU Z (.cells #[.map none,V 0, .map none,V 0] 125);have N:w.heap.size<=R:=by omega
 have l:¬R=f:=by omega
 rw[<-hR];generalize w.alloc (.cells #[.map none,V 0, .map none,V 0] 125)=w1 at*;clear hR;by_cases D:p+5<=8*B.length;case neg=>
  apply(dL f g off cap z p 5 B w1 (F.feed _ _ _ _ Z) (hS.step F.step j) j (by omega) hp (by omega)).mono;rintro e w2 ⟨rfl,S⟩;have c:=hide (F.trans S);clear F S aw;go_wp2_with fail;rw[d.o,AY B p (by omega)];exact⟨rfl,rfl,_,c.o⟩
 apply(dO f g off cap z p 5 B w1 (F.feed _ _ _ _ Z) (hS.step F.step j) j (by omega) D).mono;rintro e w2 ⟨rfl,S⟩;have m:=F.trans S;have aj:=S.step.at_ aw l;have bt:=bO B p 5;go_wp2_with fail;by_cases h2:p+5+5<=8*B.length;case neg=>
  apply(dL f g off cap z (p+5) 5 B w2 (m.feed _ _ _ _ Z) (hS.step m.step j) j (by omega) D (by omega)).mono;rintro e w3 ⟨rfl,J⟩;have c:=hide (m.trans J);clear m J aj;go_wp2_with fail;rw[d.o,AY B p (by omega)];exact⟨rfl,rfl,_,c.o⟩
 apply(dO f g off cap z (p+5) 5 B w2 (m.feed _ _ _ _ Z) (hS.step m.step j) j (by omega) h2).mono;rintro e w3 ⟨rfl,J⟩;have s:=m.trans J;have ax:=J.step.at_ aj l;have bu:=bO B (p+5) 5;clear m J aj;go_wp2_with fail;by_cases h3:p+5+5+4<=8*B.length;case neg=>
  apply(dL f g off cap z (p+5+5) 4 B w3 (s.feed _ _ _ _ Z) (hS.step s.step j) j (by omega) h2 (by omega)).mono;rintro e w4 ⟨rfl,T⟩;have c:=hide (s.trans T);clear s T ax;go_wp2_with fail;rw[d.o,AY B p (by omega)];exact⟨rfl,rfl,_,c.o⟩
 apply(dO f g off cap z (p+5+5) 4 B w3 (s.feed _ _ _ _ Z) (hS.step s.step j) j (by omega) h3).mono;rintro e w4 ⟨rfl,T⟩;have i:=s.trans T;have K:=T.step.at_ ax l;have bv:=bO B (p+5+5) 4;have b:res=Qb B (p+5+5+4) (aG B p 5+257) (aG B (p+5) 5+1) (aG B (p+5+5) 4+4):=by rw[d.o,Gq B p h3]
 clear d;generalize aG B p 5=x1 at*;generalize aG B (p+5) 5=x2 at*;generalize aG B (p+5+5) 4=x3 at*;obtain⟨q,hq⟩:=aP (p+5+5+4);rw[<-hq]at h3 i b;clear hq D h2 hp;by_cases H:286<x1+257\/30<x2+1
 ·unfold Qb at b;rw[aA H]at b;obtain⟨⟨b0,b1,b2,b3⟩,f0,f1,f2,f3⟩:=mV K;have d:=hide b;clear b K;by_cases bc:286<x1+257;all_goals
   go_wp2_with fail;refine aY (v:= .tuple #[.agg #[.map none,V 0, .map none,V 0],V 7]) (by simp[results,results205,go_sem,b0,b1,b2,b3]) rfl ?_;rw[d.o];exact⟨rfl,_,lV.sets i (aU _ _) N l⟩
 ·unfold Qb at b;rw[aB H]at b;have bc:¬286<x1+257:=fun h=>H (.inl h);have bp:¬30<x2+1:=fun h=>H (.inr h);have d:=hide b;clear b;go_wp2_with fail;have ar:=PW f g off cap z q (x3+4) B w4 (i.feed _ _ _ _ Z) (hS.step i.step j) j (by omega) (by omega) (hO.step i.step (fun k hk x=>by omega)) ao;have bb:(((x3+4:Nat)):Int)=(x3:Int)+4:=by omega
  rw[bb]at ar;apply ar.mono;rintro e w5 (⟨r,Y⟩|⟨r,rfl,q5,u⟩);case inr=>
   have c:=hide (i.trans u);clear i u K;go_wp2_with fail;rw[d.o,aB (by omega)];exact⟨rfl,rfl,_,c.o⟩
  unfold ah3 at Y;by_cases C:fF (bD B q (x3+4))=true;case neg=>
   rw[aB C]at Y;obtain⟨rfl,q5,u⟩:=Y;have ab:=u.step.at_ K l;obtain⟨b0,b1,b2,b3,f0,f1,f2,f3⟩:=Un ab;have c:=hide (i.trans u);go_wp2_with fail;refine aY (v:= .tuple #[.agg #[.map none,V 0, .map none,V 0],V 7]) (by simp[results,results205,go_sem,b0,b1,b2,b3]) rfl ?_;rw[d.o,aA r,aB C];exact⟨rfl,_,lV.sets c.o ((aU _ _).alloc _) N l⟩
  rw[aA C]at Y;obtain⟨m1,rfl,bq,an,u⟩:=Y;have b:=d.o;rw[aA r,aA C]at b;clear d;have au:=wM (bD B q (x3+4)) 15;have am:=VK B q (x3+4);obtain⟨M,hM⟩:=aP (aI (bD B q (x3+4)));have av:M.longest<=15:=by rw[hM];exact au
  rw[<-hM]at an b am|-
  clear au hM C;obtain⟨n,hn⟩:=aP (x1+257+(x2+1));rw[<-hn]at b;have en:(x1:Int)+257+((x2:Int)+1)=(n:Int):=by omega
  have be:n<=400:=by omega
  have bl:=i.step.size;have P:=i.trans u;have ab:=u.step.at_ K l;have af:=P.feed _ _ _ _ Z;have W:=lV.vU af (.cells #[.map (some m1),V M.longest] 123);have t:=P.trans W;have ak:=W.step.at_ ab l;have ae:m1≠f:=by omega
  have ay:=an.step W.step ae;have ap:=W.feed _ _ _ _ af;have I:=Gz f g off cap z n m1 (q+3*(x3+4)) M B (w5.alloc (.cells #[.map (some m1),V M.longest] 123)) ap (hS.step t.step j) j ay ae av r be am (hO.step t.step (fun k hk x=>by omega)) ao;have HN:=hide hn;have d:=hide b;clear hn b P i u K ab af W an ay ap am;go_wp2_with fail;obtain⟨w6,ba⟩:=aP (w5.alloc (.cells #[.map (some m1),V M.longest] 123));rw[<-ba]at I t ak|-
  clear ba;cases hrr:NM M B n (q+3*(x3+4))with
  |miss=>
   have D:=I;rw[hrr]at D;apply D.mono;rintro e w7 ⟨rfl,q7,y⟩;have c:=hide (t.trans y);clear D y;go_wp2_with fail;rw[d.o,hrr];exact⟨rfl,rfl,_,c.o⟩
  |no x=>
   have D:=I;have hx:=G8 _ _ _ _ _ _ _ hrr;have bz:((x:Int) !=0)=true:=(by rw[jP];omega);rw[hrr]at D;apply D.mono;rintro e w7 ⟨rfl,q7,y⟩;obtain⟨⟨b0,b1,b2,b3⟩,f0,f1,f2,f3⟩:=mV (y.step.at_ ak l);have c:=hide (t.trans y);clear D y hx;go_wp2_with fail;refine aY (v:= .tuple #[.agg #[.map none,V 0, .map none,V 0],V (x:Nat)]) (by simp[results,results205,go_sem,b0,b1,b2,b3]) rfl ?_;rw[d.o,hrr];exact⟨rfl,_,lV.sets c.o (aU _ _) N l⟩
  |ok row q7=>
   have D:=I;rw[hrr]at D;apply D.mono;rintro e w7 ⟨ad,RB,rfl,bn,G,y⟩;have b:=d.o;rw[hrr]at b;replace b:res=pI row (x1+257) q7:=b;have Q:=t.trans y;have al:=y.step.at_ ak l;obtain⟨a,ha⟩:=aP (x1+257);rw[<-ha]at b;have ea:(x1:Int)+257=(a:Int):=(by omega);have bo:a<=n:=(by have:=HN.o;omega);have ag:256<a:=(by omega);have bw:¬n=a:=(by have:=HN.o;omega);have eA:(row.take a).length=a:=(by rw[dF,ad];omega);have eB:(row.drop a).length=n-a:=(by rw[dX,ad]);have ac:(row.take a)[256]?.getD 0=row[256]?.getD 0:=(by rw[jQ ag]);have ai:=Ig RB 0 a n (n-a) (row.take a) (row.drop a) w7.drew ((XU G a).step ((aU (fun _=>False) w7).drew) (fun x=>x)) ((WK G a).step ((aU (fun _=>False) w7).drew) (fun x=>x)) (by omega);rw[eA,eB,ac]at ai;have bh:(0:Int)<=(a:Int):=(by omega);have bj:(a:Int)<=(n:Int):=(by omega);have bx:((n:Int)-(a:Int))=((n-a:Nat):Int):=(by omega);have d:=hide b;have HA:=hide ha;have bm:=aO al;have bf:=Q.step.size;clear eA eB ac b G ha;by_cases aa:0<row[256]?.getD 0/\fF (row.take a)=true/\p9 (row.drop a)=true
   ·have ah:=ai.mono (R':=fun e w'=>ao8 (row.take a) (row.drop a) w7.drew e w'/\O w7.drew w') (fun e w' h=>by
     rcases h with⟨_,_,_,h⟩|⟨h,_⟩
     ·exact h
     ·exact(h aa).elim)
    have b:=d.o;unfold pI at b;rw[aA aa]at b;have L:=hide b;clear d b;go_wp2_with fail
    go_region_held3 (fun w'=>w'.heap[R]? =some (.cells #[.map none,V 0, .map none,V 0] 125 (0,0))\/True) (exact .inr bT)
     (first|(go_at_call 214;apply ah.mono;rintro e w8 ⟨⟨mb,x,rfl,bs,az,aq⟩,X⟩;obtain⟨⟨b0,b1,b2,b3⟩,f0,f1,f2,f3⟩:=mV (X.at_ (w:=w7.drew) al (fun x=>x))))
    go_wp2_with fail;refine aY (v:= .tuple #[.agg #[.map (some mb),V ((aI (row.take a)).longest:Nat), .map x,V ((aI (row.drop a)).longest:Nat)],V 0]) (by simp[results,results205,go_sem,b0,b1,b2,b3]) rfl ?_;rw[L.o];have hx:w7.drew.heap.size=w7.heap.size:=rfl;refine⟨⟨mb,x,rfl,by omega,?_,?_⟩,lV.sets Q ((aU (fun _=>False) w7).drew.trans X) N l⟩
    ·have A:mb≠R:=(by omega);exact(((az.of (cZ _ _ _ _ A)).of (cZ _ _ _ _ A)).of (cZ _ _ _ _ A)).of (cZ _ _ _ _ A)
    ·rcases aq with h|⟨m2,e2,br,bg⟩
     ·exact .inl h
     ·have A:m2≠R:=(by omega);exact .inr ⟨m2,e2,by omega,(((bg.of (cZ _ _ _ _ A)).of (cZ _ _ _ _ A)).of (cZ _ _ _ _ A)).of (cZ _ _ _ _ A)⟩
   ·have ah:=ai.mono (R':=fun e w'=>e= .returned (.tuple #[.agg #[.map none,V 0, .map none,V 0],V 7])/\O w7.drew w') (fun e w' h=>by
     rcases h with⟨D,h2,h3,_⟩|⟨_,h⟩
     ·exact(aa ⟨D,h2,h3⟩).elim
     ·exact h)
    have b:=d.o;unfold pI at b;rw[aB aa]at b;have L:=hide b;go_wp2_with fail
    go_region_held3 (fun w'=>w'.heap[R]? =some (.cells #[.map none,V 0, .map none,V 0] 125 (0,0))\/True) (exact .inr bT)
     (first|(go_at_call 214;apply ah.mono;rintro e w8 ⟨rfl,X⟩;obtain⟨⟨b0,b1,b2,b3⟩,f0,f1,f2,f3⟩:=mV (X.at_ (w:=w7.drew) al (fun x=>x))))
    go_wp2_with fail;refine aY (v:= .tuple #[.agg #[.map none,V 0, .map none,V 0],V 7]) (by simp[results,results205,go_sem,b0,b1,b2,b3]) rfl ?_;rw[L.o];exact⟨rfl,_,lV.sets Q ((aU (fun _=>False) w7).drew.trans X) N l⟩
def VI (d f base g off cap z p q n m:Nat)(B:aD)(st:iH)(w:aH)(h:mF w d f base g off cap z B st p)(s:q=(p+7)/8*8)(hp:q+32<=8*B.length)(hn:aG B q 16=n)(u:aG B (q+16) 16=m)(A:m≠65535-n)(y:n<=65535):Calls prog 193 #[E d] w fun e w'=>e= .returned (V 6)/\∃q',mF w' d f base g off cap z B st q'/\fC d f w st.v w' st.v:=by
 obtain⟨F,_,_,c3,c4,G,_⟩:=h.dec.cell;have x:=h.src.much;have C:p<=q:=by have:=s;omega
 go_enter func193,ntmps193;go_wp2_with fail;apply(uW f p _ w h.feed (by omega)).mono;rintro e w1 ⟨rfl,a⟩;rw[<-s]at a;have b:=h.fed a;obtain⟨D,_⟩:=b.dec.cell;go_wp2_with fail;apply(dO f g off cap z q 16 B w1 b.feed b.src b.af9.f (by omega) (by omega)).mono;rintro e w2 ⟨rfl,i⟩;rw[hn];have c:=b.fed i;obtain⟨b0,_⟩:=c.dec.cell;go_wp2_with fail;apply(dO f g off cap z (q+16) 16 B w2 c.feed c.src c.af9.f (by omega) (by omega)).mono;rintro e w3 ⟨rfl,j⟩;rw[u];have t:=hide (c.fed j);have l:=hide (((fC.fed (d:=d) (v:=st.v) a).trans (fC.fed i)).trans (fC.fed j));have r:((m:Int) !=(65535:Int)-(n:Int))=true:=by rw[jP];omega
 go_wp2_with fail;go_ret;exact⟨rfl,_,t.o,l.o⟩
def NJ (d f base g off cap z p q:Nat)(B:aD)(st:iH)(w:aH)(h:mF w d f base g off cap z B st p)(x:q=(p+7)/8*8)(u:p<=8*B.length)(hp:8*B.length<q+32):Calls prog 193 #[E d] w fun e w'=>e=lost/\∃q',mF w' d f base g off cap z B st q'/\fC d f w st.v w' st.v:=by
 obtain⟨A,_,_,c3,c4,C,_⟩:=h.dec.cell;have s:=h.src.much;have r:q<=8*B.length:=by omega
 go_enter func193,ntmps193;go_wp2_with fail;apply(uW f p _ w h.feed (by omega)).mono;rintro e w1 ⟨rfl,c⟩;rw[<-x]at c;have b:=h.fed c;obtain⟨y,_⟩:=b.dec.cell;go_wp2_with fail;by_cases j:q+16<=8*B.length
 ·apply(dO f g off cap z q 16 B w1 b.feed b.src b.af9.f (by omega) j).mono;rintro e w2 ⟨rfl,m⟩;have t:=bO B q 16;have l:=b.fed m;obtain⟨b0,_⟩:=l.dec.cell;go_wp2_with fail;apply(dL f g off cap z (q+16) 16 B w2 l.feed l.src l.af9.f (by omega) j (by omega)).mono;rintro e w3 ⟨rfl,a⟩;have n:=hide (l.fed a);have i:=hide (((fC.fed (d:=d) (v:=st.v) c).trans (fC.fed m)).trans (fC.fed a));go_wp2_with fail;exact⟨rfl,rfl,_,n.o,i.o⟩
 ·apply(dL f g off cap z q 16 B w1 b.feed b.src b.af9.f (by omega) r (by omega)).mono;rintro e w3 ⟨rfl,a⟩;have n:=hide (b.fed a);have i:=hide ((fC.fed (d:=d) (v:=st.v) c).trans (fC.fed a));go_wp2_with fail;exact⟨rfl,rfl,_,n.o,i.o⟩
def aA1 (r:R (aD×aD))(d f base g off cap z:Nat)(B:aD)(st:iH)(w:aH)(e:Ending)(w':aH):Prop:=
 match r with
 | .ok ab q=>e= .returned (V 0)/\∃st',st'.v=st.v/\(st'.out=st.out/\st'.fresh=st.fresh)/\st'.room=st.room/\st'.place=2/\st'.last=st.last/\st'.left=st.left/\st'.fx=st.fx/\mF w' d f base g off cap z B st' q/\(ab.1.length<=1000->ab.2.length<=1000->WB w' d f st.v st' ab.1 ab.2)/\fC d f w st.v w' st.v
 | .no x=>e= .returned (V (x:Nat))/\∃q,mF w' d f base g off cap z B st q/\fC d f w st.v w' st.v
 | .miss=>e=lost/\∃q,mF w' d f base g off cap z B st q/\fC d f w st.v w' st.v
def zL (h:bW B p= .no e):e≠0:=by
 unfold bW at h;split at h
 ·dsimp only at h;split at h
  ·simp only[R.no.injEq]at h;omega
  ·split at h
   ·split at h
    ·split at h
     ·unfold pI at h;split at h
      ·simp at h
      ·simp only[R.no.injEq]at h;omega
     ·rename_i b a;simp only[R.no.injEq]at h;have:=G8 _ _ _ _ _ _ _ a;omega
     ·simp at h
    ·simp only[R.no.injEq]at h;omega
   ·simp at h
 ·simp at h
def ZT (d f base g off cap z p:Nat)(B:aD)(st:iH)(w:aH)(h:mF w d f base g off cap z B st p)(hp:p<=8*B.length)(hO:bL w)(L:4<=f)(R:∃x,st.sm= .map x)(M:∃x,st.dm= .map x):Calls prog 195 #[E d] w fun e w'=>aA1 (bW B p) d f base g off cap z B st w e w':=by
 obtain⟨c0,_⟩:=h.dec.cell;obtain⟨x1,F⟩:=R;obtain⟨x2,T⟩:=M;have b:=TG f g off cap z p B w h.feed h.src h.af9.f hO L hp;obtain⟨res,t⟩:=aP (bW B p);rw[<-t]at b|-
 have C:∀x,res= .no x->x≠0:=fun x D=>zL (by rw[<-t,D]);have i:=hide b;have K:=hide F;clear F b t;go_enter func195,ntmps195;go_wp2_with fail;cases hr:res with
 |miss=>
  have b:=i.o;rw[hr]at b;apply b.mono;rintro e w1 ⟨rfl,q,a⟩;have u:=hide (h.fed a);have G:=hide (fC.fed (d:=d) (v:=st.v) a);go_wp2_with fail;rw[hr];exact⟨rfl,rfl,_,u.o,G.o⟩
 |no x=>
  have D:=C x hr;have b:=i.o;rw[hr]at b;apply b.mono;rintro e w1 ⟨rfl,q,a⟩;have ae:((x:Int) !=0)=true:=by rw[jP];omega
  have u:=hide (h.fed a);have G:=hide (fC.fed (d:=d) (v:=st.v) a);clear a b D;unfold yE;go_wp2_with fail;go_ret;rw[hr];have ha:∀o,mF (w1.alloc o) d f base g off cap z B st q:=fun o=>u.o.step0 ((aU (fun _=>False) _).alloc _);exact⟨rfl,q,ha _,G.o.alloc _⟩
 |ok W q=>
  have b:=i.o;rw[hr]at b;apply b.mono;rintro e w1 ⟨⟨mb,x,rfl,A,m,l⟩,a⟩;obtain⟨n,s⟩:=aP ((aI W.1).longest);obtain⟨l2,r⟩:=aP ((aI W.2).longest);rw[<-s,<-r];have j:=h.fed a;obtain⟨_,_,_,k3,_,_,k6,k7,k8,k9,_⟩:=j.dec.cell;rw[K.o]at k6;rw[T]at k8;have f3:=j.dec.free 4;have f6:=j.dec.free 7;have f7:=j.dec.free 8;have f8:=j.dec.free 9;have f9:=j.dec.free 10;have aa:=aO j.dec.blk;have N:=m.lt;have u:=hide j;have H:=hide l;have J:=hide s;have I:=hide r;have ad:¬w1.heap.size=d:=by omega
  have ac:=aO h.dec.blk;have oo:∀k,w.heap.size<=k->tK d f st.v k:=fun k hk=>by
   have z1:=h.dec.ag2;have z2:=h.dec.as5;have z3:=h.dec.af8;exact⟨by omega,by omega,fun D=>by have z4:=(h.dec.own.lt k D).2;omega⟩
  clear j l s r b i;go_wp2_with fail;go_ret;rw[hr];have c:fC d f w1 st.v _ st.v:=(((((fC.setCell d f w1 st.v 7 (.map (some mb))).trans (fC.setCell d f _ st.v 8 (V (n:Nat)))).trans (fC.setCell d f _ st.v 9 (.map x))).trans (fC.setCell d f _ st.v 10 (V (l2:Nat)))).trans (fC.setCell d f _ st.v 4 (V 2))).alloc (.cells #[.map (some mb),V (n:Nat), .map x,V (l2:Nat)] 125);refine⟨rfl,{ st with sm:= .map (some mb),sl:=n,dm:= .map x,dl:=l2,place:=2 },rfl,⟨rfl,rfl⟩,rfl,rfl,rfl,rfl,rfl,?_,fun P Q=> ?_,(fC.fed a).trans c⟩
  ·have a1:=u.o.set (st':={ st with sm:= .map (some mb) }) 7 (.map (some mb)) (by simp[iH.cells]) rfl rfl;have a2:=a1.set (st':={ st with sm:= .map (some mb),sl:=n }) 8 (V (n:Nat)) (by simp[iH.cells]) rfl rfl;have X:=a2.set (st':={ st with sm:= .map (some mb),sl:=n,dm:= .map x }) 9 (.map x) (by simp[iH.cells]) rfl rfl;have Y:=X.set (st':={ st with sm:= .map (some mb),sl:=n,dm:= .map x,dl:=l2 }) 10 (V (l2:Nat)) (by simp[iH.cells]) rfl rfl;have Z:=Y.set (st':={ st with sm:= .map (some mb),sl:=n,dm:= .map x,dl:=l2,place:=2 }) 4 (V 2) (by simp[iH.cells]) rfl rfl;exact Z.step0 ((aU (fun _=>False) _).alloc _)
  ·refine⟨⟨mb,rfl,m.step c.step (oo mb A).not,oo mb A⟩,J.o,⟨x,rfl,?_⟩,I.o,P,Q⟩;rcases H.o with h9|⟨m2,e2,y,S⟩
   ·exact .inl h9
   ·exact .inr ⟨m2,e2,S.step c.step (oo m2 y).not,oo m2 y⟩
end Go.Proofs.YtbpahojchgpdnaaGreatDoor
namespace Go.Proofs.YtbpahojchgpdnaaGreatDoor
open Go.RowKit Go.dM Go.Proofs.Tryz
variable {w:aH} {e g k p q:Nat} {B out:aD}
structure Same (b:bY)(s:XS)(G:GS):Prop where
 err:s.err=0
 out:s.out=G.out
 most:s.most=G.most
 lim:s.most<=1048576
 bits:s.at_<=8*b.size
def rG (B:aD)(k e:Nat)(out:aD)(q:Nat)(last:Bool)(s':XS):Prop:=
 (s'.err≠0/\s'.err=e/\s'.out=out)\/(s'.err=0/\∃k' G',k'<k/\eZ B k' G' e out q/\G'.out=s'.out/\G'.most=s'.most/\((last=false/\G'.place=0/\G'.p=s'.at_)\/(last=true/\G'.place=3/\G'.p=(s'.at_+7)/8*8)))
def _root_.Go.dM.eZ.qQ {s:GS}(h:eZ B k s e out q)(c:Nat)(b:aD)(hs:bM B s= .no c b)(d:s.place≠3):e=c/\out=b:=by
 rcases h.inv with⟨a,_⟩|⟨_,a,_⟩|⟨_,a,_⟩|⟨_,_,_,_,a,_⟩
 ·exact absurd a d
 ·rw[hs]at a;cases a;exact⟨rfl,rfl⟩
 ·rw[hs]at a;cases a
 ·rw[hs]at a;cases a
def _root_.Go.dM.eZ.wN {s:GS}(h:eZ B k s e out q)(hs:bM B s= .miss)(b:s.place≠3):e=3/\out=s.out:=by
 rcases h.inv with⟨a,_⟩|⟨_,a,_⟩|⟨_,_,a,c,_⟩|⟨_,_,_,_,a,_⟩
 ·exact absurd a b
 ·rw[hs]at a;cases a
 ·exact⟨a,c⟩
 ·rw[hs]at a;cases a
def _root_.Go.dM.eZ.LY {s b:GS}(h:eZ B k s e out q)(hs:bM B s= .go b)(c:s.place≠3):∃m,k=m+1/\eZ B m b e out q:=by
 rcases h.inv with⟨a,_⟩|⟨_,a,_⟩|⟨_,a,_⟩|⟨m,f,hk,_,a,d⟩
 ·exact absurd a c
 ·rw[hs]at a;cases a
 ·rw[hs]at a;cases a
 ·rw[hs]at a;cases a;exact⟨m,hk,d⟩
def TB {G:GS}{s':XS}(f:eZ B k (G.ended p) e out q)(a:Nat)(hk:k<a)(b:s'.err=0)(d:G.out=s'.out)(c:G.most=s'.most)(hp:p=s'.at_):rG B a e out q G.last s':=by
 refine .inr ⟨b,k,G.ended p,hk,f,d,c,?_⟩;unfold GS.ended;cases hl:G.last with
 |false=>exact .inl ⟨rfl,by simp,by simp[hp]⟩
 |true=>exact .inr ⟨rfl,by simp,by simp[hp]⟩
def EJ (b:bY)(s:XS)(a:s.err=0)(d:s.at_<=8*b.size)(n m:Nat)(h:8*b.size<s.at_+n+m):(cB b (cB b s n).2 m).2={ s with at_:=8*b.size,err:=3 }:=by
 by_cases c:s.at_+n<=8*b.size
 ·rw[jH b s a n c];exact j3 b { s with at_:=s.at_+n } a c m (by dsimp only;omega)
 ·rw[j3 b s a d n (by omega),oD b _ (by dsimp only;omega) m]
def mG (G:GS)(last:Bool)(left:Nat)(s:XS):GS:={ G with last:=last,left:=left,place:=1,out:=s.out,p:=s.at_ }
def TT (B:aD)(k e:Nat)(out:aD)(q:Nat)(G:GS)(last:Bool)(left:Nat)(s2:XS):Prop:=
 (s2.err=0/\s2.most=G.most/\∃m,m<k/\eZ B m (mG G last left s2) e out q)\/(s2.err≠0/\s2.err=e/\s2.out=out)
def Xc {b:bY}{G:GS}{last:Bool}{left:Nat}{a:XS}(h:TT (bytesOf b) k e out q G last (left+1) a)(l:a.err=0)(A:a.at_<=8*b.size)(u:aK)(j:a.out.length<=a.most):TT (bytesOf b) k e out q G last left (qR (cB b a 8).1 (cB b a 8).2 u)/\(qR (cB b a 8).1 (cB b a 8).2 u).out.length<=(qR (cB b a 8).1 (cB b a 8).2 u).most:=by
 rcases h with⟨_,y,m,z,s⟩|⟨v,_⟩
 case inr=>exact absurd l v
 have f:=bytesOf_length b;have c:bM (bytesOf b) (mG G last (left+1) a)=nO (bytesOf b) (mG G last (left+1) a):=by unfold bM mG;rw[aA rfl]
 unfold nO at c;rw[aB (by unfold mG;simp)]at c;have n:(mG G last (left+1) a).place≠3:=by unfold mG;simp
 by_cases d:a.at_+8<=8*b.size
 ·rw[aA (by unfold mG;rw[f];exact d)]at c;rw[jH b a l 8 d];unfold qR;dsimp only;rw[aB (by omega)];unfold mM mG at c;dsimp only at c;by_cases i:a.out.length<a.most
  ·rw[aA (by simp;omega)]at c;rw[aA i];obtain⟨C,x,t⟩:=s.LY (by unfold mG;exact c) n;refine⟨.inl ⟨l,y,C,by omega,?_⟩,by simp;omega⟩;unfold mG;exact t
  ·rw[aB (by simp;omega)]at c;rw[aB i];obtain⟨o,r⟩:=s.qQ _ _ (by unfold mG;exact c) n;refine⟨.inr ⟨by simp,o.symm,?_⟩,j⟩;rw[r];have:G.most-a.out.length=0:=(by omega);rw[this];simp
 ·rw[aB (by unfold mG;rw[f];exact d)]at c;rw[j3 b a l A 8 (by omega)];obtain⟨o,r⟩:=s.wN c n;unfold qR;dsimp only;rw[aA (by omega)];exact⟨.inr ⟨by simp,o.symm,by rw[r];rfl⟩,j⟩
structure Gv (w wr:aH)(x base k e:Nat)(b:bY)(out:aD)(q:Nat)(G:GS)(last:Bool)(s:XS)(left:Nat)(s2:XS):Prop where
 rel:TT (bytesOf b) k e out q G last left s2
 most:s2.most=s.most
 name:s2.name=s.name
 room:s2.out.length<=s2.most
 H9:j6 wr x base b s2
 wrt:dH x w s.v wr s2.v
def sQ (c:Nat)(s:XS)(a:aK):(qR c s a).most=s.most/\(qR c s a).name=s.name:=by
 unfold qR;split
 ·exact⟨rfl,rfl⟩
 ·split<;>exact⟨rfl,rfl⟩
def ah6 {b:bY}{G:GS}{last:Bool}{a:XS}(h:TT (bytesOf b) k e out q G last 0 a):rG (bytesOf b) k e out q last a:=by
 rcases h with⟨d,j,m,l,n⟩|h
 ·have f:bM (bytesOf b) (mG G last 0 a)= .go ((mG G last 0 a).ended a.at_):=by
   unfold bM nO;rw[aA (show(mG G last 0 a).place=1 from rfl),aA (show(mG G last 0 a).left=0 from rfl)];rfl
  obtain⟨o,i,c⟩:=n.LY f (by unfold mG;simp);exact TB c k (by omega) d rfl j.symm rfl
 ·exact .inl h
def Gw (x base k e:Nat)(b:bY)(s:XS)(G:GS)(out:aD)(q:Nat)(w:aH)(h:j6 w x base b s)(f:Same b s G)(hp:s.at_=G.p+3)(h1:G.place≠1)(h2:G.place≠2)(h3:G.place≠3)(hk:aG (bytesOf b) (G.p+1) 2=0)(hr:eZ (bytesOf b) k G e out q)(X:s.out.length<=s.most):Calls prog 141 #[E x] w fun r w'=>r= .returned (.tuple #[])/\∃s',rG (bytesOf b) k e out q (bK (bytesOf b) G.p==1) s'/\s'.name=s.name/\s'.most=s.most/\s'.out.length<=s'.most/\j6 w' x base b s'/\dH x w s.v w' s'.v:=by
 have u:bM (bytesOf b) G=kL (bytesOf b) G:=by unfold bM;rw[aB h1,aB h2]
 have ae:=bytesOf_length b;unfold kL at u;rw[aA (by rw[ae];have:=f.bits;omega),aA hk]at u;rw[ae,<-hp]at u;obtain⟨p0,W⟩:=aP ((s.at_+7)/8*8);rw[<-W]at u;have an:=f.bits;have aw:p0<=8*b.size:=by omega
 have am:=hide W;have S:=f.lim;clear W;go_enter func141,ntmps141;go_wp2_with fail;apply(Fz x base b s w h).mono;rintro r w1 ⟨rfl,N,Y⟩;rw[<-am.o]at N;go_wp2_with fail;apply(gD x base 16 b _ w1 N (by omega)).mono;rintro r w2 ⟨rfl,ab,M⟩;go_wp2_with fail;apply(gD x base 16 b _ w2 ab (by omega)).mono;rintro r w3 ⟨rfl,a,H⟩;rw[(pW b _ 16).1]at H;dsimp only at M H;have t:=(Y.trans M).trans H;have ag:=jM b { s with at_:=p0 } 16;have af:=jM b (cB b { s with at_:=p0 } 16).2 16;obtain⟨last,d⟩:=aP ((bK (bytesOf b) G.p==1));have C:=hide d;have J:(8*b.size<p0+32)\/(p0+32<=8*b.size/\aG (bytesOf b) (p0+16) 16≠65535-aG (bytesOf b) p0 16)\/(p0+32<=8*b.size/\aG (bytesOf b) (p0+16) 16=65535-aG (bytesOf b) p0 16):=by
  by_cases A:p0+32<=8*b.size
  ·by_cases h8:aG (bytesOf b) (p0+16) 16=65535-aG (bytesOf b) p0 16
   ·exact .inr (.inr ⟨A,h8⟩)
   ·exact .inr (.inl ⟨A,h8⟩)
  ·exact .inl (by omega)
 have u:=u;rw[<-d]at u;rcases J with L|⟨L,av⟩|⟨L,ao⟩
 focus
  have e3:=EJ b { s with at_:=p0 } f.err aw 16 16 (by dsimp only;omega);rw[e3]at a;rw[aB (by omega)]at u;obtain⟨he,ho⟩:=hr.wN u h3;have D:=hide (show Gv w w3 x base k e b out q G last s (cB b { s with at_:=p0 } 16).1 { s with at_:=8*b.size,err:=3 } from⟨.inr ⟨by simp,he.symm,by rw[ho];exact f.out⟩,rfl,rfl,X,a,t⟩);obtain⟨_,_,c2,_⟩:=a.cell;dsimp only at c2;clear a N ab Y M H t e3 he ho;generalize(cB b { s with at_:=p0 } 16).1=n at*;generalize(cB b (cB b { s with at_:=p0 } 16).2 16).1=m at*;clear d
 rotate_left;focus
  have e1:=jH b { s with at_:=p0 } f.err 16 (by dsimp only;omega);have e2:=jH b { s with at_:=p0+16 } f.err 16 (by dsimp only;omega);rw[e1]at a|-
  dsimp only at a|-
  rw[e2]at a|-
  dsimp only at a|-
  rw[aA L,aB av]at u;obtain⟨he,ho⟩:=hr.qQ _ _ u h3;obtain⟨_,_,c2,_⟩:=a.cell;dsimp only at c2;rw[f.err]at c2;have au:=bO (bytesOf b) p0 16;have bb:=bO (bytesOf b) (p0+16) 16;generalize aG (bytesOf b) p0 16=n at*;generalize aG (bytesOf b) (p0+16) 16=m at*;have ak:(((n:Int)+(m:Int)) !=65535)=true:=by rw[jP];omega
  go_wp2_with fail;apply(iK x base 6 b _ w3 a).mono;rintro r w4 ⟨rfl,P,Z⟩;dsimp only at P Z;rw[aA f.err]at P;have D:=hide (show Gv w w4 x base k e b out q G last s n { s with at_:=p0+16+16,err:=6 } from⟨.inr ⟨by simp,he.symm,by rw[ho];exact f.out⟩,rfl,rfl,X,P,t.trans Z⟩);clear P Z he ho ak
 rotate_left;focus
  have e1:=jH b { s with at_:=p0 } f.err 16 (by dsimp only;omega);have e2:=jH b { s with at_:=p0+16 } f.err 16 (by dsimp only;omega);rw[e1]at a|-
  dsimp only at a|-
  rw[e2]at a|-
  dsimp only at a|-
  rw[aA L,aA ao]at u;obtain⟨k1,aq,aj⟩:=hr.LY u h3;obtain⟨_,_,c2,_⟩:=a.cell;dsimp only at c2;rw[f.err]at c2;have au:=bO (bytesOf b) p0 16;have D:=hide (show Gv w w3 x base k e b out q G last s (aG (bytesOf b) p0 16) { s with at_:=p0+16+16 } from⟨.inl ⟨f.err,f.most,k1,by omega,by
   unfold mG;dsimp only;rw[f.out];exact aj⟩,rfl,rfl,X,a,t⟩)
  clear N ab Y M H d ag af e1 e2 aj aq;generalize aG (bytesOf b) p0 16=n at*;generalize aG (bytesOf b) (p0+16) 16=m at*;have ak:(((n:Int)+(m:Int)) !=65535)=false:=by rw[tY];omega
 all_goals
  go_wp2_with fail;go_loopw [4] (fun i wr=>∃(j:Nat) (I:XS),j<=n/\i=V j/\Gv w wr x base k e b out q G last s (n-j) I) (fun i _=>n-(intOf i).toNat);case atStart=>exact⟨0,_,by omega,rfl,D.o⟩
  case round=>
   obtain⟨j,I,hj,rfl,hrel⟩:=hrel;obtain⟨_,_,c2,_⟩:=hrel.H9.cell;by_cases ba:j<n
   ·by_cases R:I.err=0
    ·rw[R]at c2;have F:=gD x base 8 b I wr hrel.H9 (by omega);have ah:=jM b I 8;have y:=pW b I 8;have T:=fun z=>Xc (left:=n-(j+1)) (by have:=hrel.rel;rw[show n-j=(n-(j+1))+1 by omega]at this;exact this) R hrel.H9.there z hrel.room;obtain⟨c,Q,J⟩:∃c Q,cB b I 8=(c,Q):=⟨_,_,rfl⟩
     rw[J]at F ah y;have K:∀z,TT (bytesOf b) k e out q G last (n-(j+1)) (qR c Q z)/\(qR c Q z).out.length<=(qR c Q z).most:=fun z=>by
      have A:=T z;rw[J]at A;exact A
     dsimp only at F ah y;have l:=hide K;have ar:=hrel.most;go_wp2_with fail;apply F.mono;rintro r w5 ⟨rfl,ay,ax⟩;have ai:=QG x base c b Q w5 ay (by rw[y.2.2.1,ar];exact S);have ad:=hide (hrel.wrt.trans ax);go_wp2_with fail;apply ai.mono;rintro r w6 ⟨rfl,z,al,aa⟩;rw[y.1]at aa;have ac:=hide (show Gv w w6 x base k e b out q G last s (n-(j+1)) (qR c Q z) from⟨(l.o z).1,(sQ c Q z).1.trans (y.2.2.1.trans hrel.most),(sQ c Q z).2.trans (y.2.2.2.trans hrel.name),(l.o z).2,al,ad.o.trans aa⟩);clear al aa l ad;go_wp2_with fail;exact⟨⟨j+1,_,by omega,by go_num,ac.o⟩,by simp[intOf];omega⟩
    ·have az:((I.err:Int)==0)=false:=aX.2 (by omega);go_wp2_with fail;go_end0;refine⟨rfl,I,?_,hrel.name,hrel.most,hrel.room,hrel.H9,hrel.wrt⟩;rw[<-C.o];rcases hrel.rel with⟨A,_⟩|A
     ·exact absurd A R
     ·exact .inl A
   ·have ap:j=n:=(by omega);subst ap;go_wp2_with fail;go_end0;refine⟨rfl,I,?_,hrel.name,hrel.most,hrel.room,hrel.H9,hrel.wrt⟩;rw[<-C.o];have A:=hrel.rel;rw[uL]at A;exact ah6 A
def QL {w1:aH}{base R n:Nat}(c:w1.ownsRow base 3 1 (.slice (some (U R 0)) n n) n (madeCells (V 0).cells (n*1)).toList):bA w1 R 3 n (fun _=>nat 0):=by
 obtain⟨_,⟨f,_⟩|⟨r,j,a,f,_,hh,_,_,b,d⟩⟩:=c
 ·cases f
 ·cases f;refine⟨a,hh,by rw[b];omega,fun i o=> ?_⟩;have l:a.toList=(madeCells (V 0).cells (n*1)).toList:=by
   rw[<-d,kW (by rw[IE,b];exact aS _)]
  have m:a=madeCells (V 0).cells (n*1):=Array.toList_inj.1 l;rw[m];unfold madeCells;rw[Array.getElem?_map,Array.getElem?_range,aA (by omega)];show some ((#[V 0]:Array aK)[i%1]!)=_;rw[Nat.mod_one];rfl
def MV {R n:Nat}{L:aD}(h:bA w R 3 n (fun i=>nat (L[i]?.getD 0)))(hn:L.length=n)(a:∀i:Nat,L[i]?.getD 0<=15)(b:n<=1000):Ints w R 0 L:=⟨fun i hi=>by rw[dS];exact h.cell i (by omega),a,by omega⟩
def Mc (w:aH):Calls prog 142 #[] w fun e w'=>∃P Q,e= .returned (.tuple #[.slice (some (U P 0)) 288 288, .slice (some (U Q 0)) 32 32])/\w.heap.size<=P/\w.heap.size<=Q/\bA w' P 234 (2*288) (iY (gP gK))/\bA w' Q 234 (2*32) (iY (gP fM))/\O w w':=by
 obtain⟨i0,hi,af,ag,ah⟩:=eD info3;have C:=aU (fun _=>False) w;go_enter func142,ntmps142;go_wp2_with (at_make;refine sD _ rfl _ _ 57 rfl w.heap.size 3 i0 (V 0) 1 underlying57 hi af ag .i64 .i64 _ _ 288 rfl rfl rfl rfl (by rw[ah];omega) (by unfold maxLen;omega) (aS _) ?_;intro w1 j x);have a:=QL j;have b:O w w1:=C.grown x (fun k hk=>by cases hk);obtain⟨R,hR⟩:=aP w.heap.size;rw[<-hR]at a|-
 have s:w.heap.size<=R:=by omega
 clear j x hR C;go_loopw [3] (fun i wr=>∃k:Nat,k<=288/\i=V (k:Nat)/\bA wr R 3 288 (fun i=>nat (if i<k then yS i else 0))/\O w wr) (fun i _=>288-(intOf i).toNat);case atStart=>exact⟨0,by omega,rfl,a.congr (fun i _=>by simp),b⟩
 case round=>
  obtain⟨k,hk,rfl,a,b⟩:=hrel;by_cases ac:k<288
  ·have au:=hide a;have z:=a.cell k ac;have fz:=a.free k;have aq:(0:Int)<=(k:Int):=(by omega);have ar:(k:Int)<288:=(by omega);have ae:∀u,u=yS k->bA (wr.setCell (U R k) (V (u:Nat))) R 3 288 (fun i=>nat (if i<k+1 then yS i else 0)):=fun u hu=>by
    refine(a.set k (V (u:Nat))).congr fun i _=> ?_;by_cases f:i=k
    ·rw[aA f,aA (by omega),hu,f]
    ·rw[aB f];by_cases m:i<k
     ·rw[aA m,aA (by omega)]
     ·rw[aB m,aB (by omega)]
   have c:=hide ae;by_cases h1:k<144
   ·have L:yS k=8:=(by unfold yS;rw[aA h1]);have J:=hide L;go_wp2_with fail;exact⟨⟨k+1,by omega,by go_num,c.o 8 J.o.symm,b.aZ s _⟩,by simp[intOf];omega⟩
   by_cases m:k<256
   ·have L:yS k=9:=(by unfold yS;rw[aB h1,aA m]);have J:=hide L;go_wp2_with fail;exact⟨⟨k+1,by omega,by go_num,c.o 9 J.o.symm,b.aZ s _⟩,by simp[intOf];omega⟩
   by_cases h3:k<280
   ·have L:yS k=7:=(by unfold yS;rw[aB h1,aB m,aA h3]);have J:=hide L;go_wp2_with fail;exact⟨⟨k+1,by omega,by go_num,c.o 7 J.o.symm,b.aZ s _⟩,by simp[intOf];omega⟩
   ·have L:yS k=8:=(by unfold yS;rw[aB h1,aB m,aB h3,aA ac]);have J:=hide L;go_wp2_with fail;exact⟨⟨k+1,by omega,by go_num,c.o 8 J.o.symm,b.aZ s _⟩,by simp[intOf];omega⟩
  ·have:k=288:=(by omega);subst this;have v:Ints wr R 0 gK:=MV (n:=288) (a.congr (fun i t=>by rw[aA t,kS,nY])) (by rw[kS,dP]) (fun i=>by rw[kS];exact vX i) (by omega);have aj:=hide v;have am:=hide b;have az:=a.lt;clear a b v;go_wp2_with (at_make;refine sD _ rfl _ _ 57 rfl wr.heap.size 3 i0 (V 0) 1 underlying57 hi af ag .i64 .i64 _ _ 32 rfl rfl rfl rfl (by rw[ah];omega) (by unfold maxLen;omega) (aS _) ?_;intro w2 l A);have d:=QL l;have D:O wr w2:=(aU _ wr).grown A (fun k hk=>by cases hk);obtain⟨T,hT⟩:=aP wr.heap.size;rw[<-hT]at d|-
   have ao:wr.heap.size<=T:=(by omega);clear l A hT;go_loopw [5] (fun i w3=>∃k:Nat,k<=32/\i=V (k:Nat)/\bA w3 T 3 32 (fun i=>nat (if i<k then 5 else 0))/\O wr w3) (fun i _=>32-(intOf i).toNat);case atStart=>exact⟨0,by omega,rfl,d.congr (fun i _=>by simp),D⟩
   case round=>
    clear d D;obtain⟨k,ba,rfl,a,b⟩:=hrel;by_cases ad:k<32
    ·have W:=hide b;have z:=a.cell k ad;have fz:=a.free k;have aq:(0:Int)<=(k:Int):=(by omega);have ar:(k:Int)<32:=(by omega);have c:=hide (show bA (wr.setCell (U T k) (V 5)) T 3 32 (fun i=>nat (if i<k+1 then 5 else 0)) from by
      refine(a.set k (V 5)).congr fun i _=> ?_;by_cases f:i=k
      ·rw[aA f,aA (by omega)];rfl
      ·rw[aB f];by_cases m:i<k
       ·rw[aA m,aA (by omega)]
       ·rw[aB m,aB (by omega)])
     clear a b;go_wp2_with fail;exact⟨⟨k+1,by omega,by go_num,c.o,W.o.aZ ao _⟩,by simp[intOf];omega⟩
    ·have:k=32:=(by omega);subst this;have ap:Ints wr T 0 fM:=MV (n:=32) (a.congr (fun i t=>by rw[aA t];unfold fM;rw[lY,aA t];rfl)) (by unfold fM;rw[dQ]) (fun i=>by unfold fM;rw[lY];split<;>simp) (by omega);have v:=aj.o.step b (fun y=>y);have F:=am.o.trans b;have Z:gK.length=288:=(by rw[kS,dP]);have an:fM.length=32:=(by unfold fM;rw[dQ]);have aa:=xU R 0 288 gK wr v;rw[Z]at aa;have ak:=hide ap;have S:=hide an;go_wp2_with fail;apply aa.mono;rintro r w5 ⟨P,rfl,ax,M,G⟩;have ab:=xU T 0 32 fM w5 (ak.o.step G (fun y=>y));rw[S.o]at ab;have ai:=hide ab;have H:=F.trans G;have X:=hide H;have aw:=H.size;have av:=F.size;go_wp2_with fail;apply ai.o.mono;rintro r w6 ⟨Q,rfl,ay,N,I⟩;have K:=hide N;have al:=hide (M.step I (fun y=>y));have Y:=hide (X.o.trans I);go_wp2_with fail;go_ret2;exact⟨P,Q,rfl,by omega,by omega,al.o,K.o,Y.o⟩
end Go.Proofs.YtbpahojchgpdnaaGreatDoor
