import Derived.Deep.LoopGhost
import Derived.Test.YtbpahojchgpdnaaGreatDoorFrame
import Derived.RangeFuncNested
import Derived.RangeFuncBound
import Derived.Shelf.RegionOpen
import Derived.OwnWalkIn
import Derived.LoopNIn
import Derived.LoopIn
set_option maxRecDepth 20000
set_option maxHeartbeats 4000000
set_option linter.all false
namespace Go.Proofs.YtbpahojchgpdnaaGreatDoor
open Go.RowKit Go.dM Go.Proofs.Tryz
variable {A B w w':aH} {F best cap ga gl j n1 noted off q:Nat} {ys:aD}
structure ao2 (w:aH)(F j off cap:Nat)(ys:aD):Prop where
 cell:w.cell? (U F 0)=some (.slice (some (U j off)) ys.length cap)
 lies:nI w j off ys
 byte:∀i:Nat,ys[i]?.getD 0<256
 few:ys.length<=1048576
def mU (l d:Nat):Bool:=decide (3<l)||(decide (l=3)&&decide (d<=4096))
def aj2 (l d:Nat)(w:aH):Calls prog 163 #[V l,V d] w fun e w'=>e= .returned (.bool (mU l d))/\w'=w:=by
 by_cases a:3<l
 ·have b:(l:Int)>3:=by omega
  have HB:=hide (show mU l d=true by unfold mU;rw[eU a];rfl);go_enter func163,ntmps163;go_wp2_with fail;go_ret;exact⟨by rw[HB.o];rfl,rfl⟩
 ·have b:¬(l:Int)>3:=by omega
  by_cases c:l=3
  ·have f:((l:Int)==3)=true:=dI.2 (by omega);by_cases i:d<=4096;focus
    have g:(d:Int)<=4096:=(by omega);have HB:=hide (show mU l d=true by unfold mU;rw[eU c,eU i];simp)
   rotate_left;focus
    have g:¬(d:Int)<=4096:=(by omega);have HB:=hide (show mU l d=false by unfold mU;rw[fT a,fT i];simp)
   all_goals
    clear c;go_enter func163,ntmps163;go_wp2_with fail;go_ret;exact⟨by rw[HB.o];rfl,rfl⟩
  ·have f:((l:Int)==3)=false:=aX.2 (by omega);have HB:=hide (show mU l d=false by unfold mU;rw[fT a,fT c];rfl);go_enter func163,ntmps163;go_wp2_with fail;go_ret;exact⟨by rw[HB.o];rfl,rfl⟩
def CJ (ys:aD)(p:Nat):Nat:=(bits BinOp.or IntKind.u32 (bits BinOp.or IntKind.u32 (ys[p]?.getD 0:Int) ((ys[p+1]?.getD 0:Int)*256)) ((ys[p+2]?.getD 0:Int)*65536)*2654435761%4294967296/131072).toNat
def Fp (ys:aD)(p:Nat):CJ ys p<32768:=by unfold CJ;omega
def Pg (F j off cap p:Nat)(ys:aD)(w:aH)(h:ao2 w F j off cap ys)(hp:p<=1048576):Calls prog 181 #[E F,V p] w fun e w'=>(if p+3<=ys.length then e= .returned (.tuple #[V (CJ ys p:Nat), .bool true])else e= .returned (.tuple #[V 0, .bool false]))/\O w w':=by
 have g:=h.cell;by_cases a:p+3<=ys.length
 ·simp only[aA a];have d:¬((p:Int)+3>(ys.length:Int)):=by omega
  have o:=h.lies p (by omega);have r:=h.lies (p+1) (by omega);have s:=h.lies (p+2) (by omega);have t:=h.byte p;have u:=h.byte (p+1);have v:=h.byte (p+2);unfold CJ;generalize ys[p]?.getD 0=f at*;generalize ys[p+1]?.getD 0=a1 at*;generalize ys[p+2]?.getD 0=a2 at*;have hn:=h.few;obtain⟨n,b⟩:=aP ys.length;rw[<-b]at g d a hn;have k:(p:Int)<(n:Int):=by omega
  have l:(p:Int)+1<(n:Int):=by omega
  have m:(p:Int)+2<(n:Int):=by omega
  have x:(0:Int)<=(p:Int):=by omega
  clear h b;go_enter func181,ntmps181;go_wp2_with fail;go_region;go_wp2_with fail;go_ret2;obtain⟨X,c⟩:∃X:Int,X=bits BinOp.or IntKind.u32 (bits BinOp.or IntKind.u32 (f:Int) ((a1:Int)*256)) ((a2:Int)*65536)*2654435761%4294967296/131072:=⟨_,rfl⟩
  have i:0<=X/\X<32768:=by omega
  refine⟨?_,(aU _ _).drew⟩;rw[<-c,show((X.toNat:Nat):Int)=X by omega,c];rfl
 ·simp only[aB a];have d:(p:Int)+3>(ys.length:Int):=by omega
  clear h;generalize ys.length=n at*;go_enter func181,ntmps181;go_wp2_with fail;go_ret2;exact⟨rfl,aU _ _⟩
def fA (ys:aD):Nat->Nat->Nat->Nat
 |_,_,0=>0
 |p,q,m+1=>if ys[p]?.getD 0=ys[q]?.getD 0 then fA ys (p+1) (q+1) m+1 else 0
def U3 (ys:aD):∀m p q,fA ys p q m<=m:=by
 intro m;induction m with
 |zero=>intro p q;simp[fA]
 |succ m ih=>
  intro p q;rw[fA];split
  ·have:=ih (p+1) (q+1);omega
  ·omega
def ZP (ys:aD):∀m p q i,i<fA ys p q m->ys[p+i]?.getD 0=ys[q+i]?.getD 0:=by
 intro m;induction m with
 |zero=>intro p q i hi;simp[fA]at hi
 |succ m ih=>
  intro p q i hi;rw[fA]at hi;split at hi
  ·rename_i h;cases i with
   |zero=>exact h
   |succ i=>
    have:=ih (p+1) (q+1) i (by omega);rw[show p+(i+1)=p+1+i by omega,show q+(i+1)=q+1+i by omega];exact this
  ·omega
def RL (ys:aD):∀m p q l,l<=m->(∀i,i<l->ys[p+i]?.getD 0=ys[q+i]?.getD 0)->(l=m\/ys[p+l]?.getD 0≠ys[q+l]?.getD 0)->l=fA ys p q m:=by
 intro m;induction m with
 |zero=>intro p q l h _ _;simp[fA];omega
 |succ m ih=>
  intro p q l d b a;rw[fA];cases l with
  |zero=>
   have c:ys[p]?.getD 0≠ys[q]?.getD 0:=by
    rcases a with a|a
    ·omega
    ·exact a
   rw[aB c]
  |succ l=>
   rw[aA (show ys[p]?.getD 0=ys[q]?.getD 0 from b 0 (by omega)),<-ih (p+1) (q+1) l (by omega) (fun i hi=>by
    have:=b (i+1) (by omega);rw[show p+(i+1)=p+1+i by omega,show q+(i+1)=q+1+i by omega]at this;exact this) (by
    rw[show p+(l+1)=p+1+l by omega,show q+(l+1)=q+1+l by omega]at a;rcases a with a|a
    ·exact .inl (by omega)
    ·exact .inr a)]
def Us (F j off cap p q m:Nat)(ys:aD)(w:aH)(h:ao2 w F j off cap ys)(Q:p<=q)(hm:q+m<=ys.length):Calls prog 162 #[E F,V p,V q,V m] w fun e w'=>e= .returned (V (fA ys p q m:Nat))/\O w w':=by
 have u:=hide h;have K:=h.few;go_enter func162,ntmps162;go_wp2_with fail;go_loopg [9] m (fun g u9 wr=>∃l:Nat,u9=V l/\g+l=m/\(∀i,i<l->ys[p+i]?.getD 0=ys[q+i]?.getD 0)/\O w wr);case atStart=>exact⟨0,rfl,by omega,fun i hi=>by omega,aU _ _⟩
 case round=>
  obtain⟨l,rfl,Z,d,c⟩:=hrel;have k:=hide d;by_cases P:l<m
  ·have r:(l:Int)<(m:Int):=(by omega);have N:=c.cell (p:=(U F 0)) u.o.cell (fun y=>y);have L:=c.cell (p:=⟨j,off+(p+l),none⟩) (u.o.lies (p+l) (by omega)) (fun y=>y);have M:=c.cell (p:=⟨j,off+(q+l),none⟩) (u.o.lies (q+l) (by omega)) (fun y=>y);obtain⟨n,s⟩:=aP ys.length;obtain⟨a,z⟩:=aP (p+l);obtain⟨b,C⟩:=aP (q+l);rw[<-s]at N;rw[<-z]at L;rw[<-C]at M;have ia:(p:Int)+(l:Int)=(a:Int):=(by omega);have ib:(q:Int)+(l:Int)=(b:Int):=(by omega);have S:(a:Int)<(n:Int):=(by omega);have X:(b:Int)<(n:Int):=(by omega);have R:(0:Int)<=(a:Int):=(by omega);have W:(0:Int)<=(b:Int):=(by omega);have T:IntKind.i64.wrap (a:Int)=(a:Int):=(by rw[dK];omega);have Y:IntKind.i64.wrap (b:Int)=(b:Int):=(by rw[dK];omega);obtain⟨x,G⟩:=aP (ys[a]?.getD 0);obtain⟨y,H⟩:=aP (ys[b]?.getD 0);rw[<-G]at L;rw[<-H]at M;have I:=hide (show ys[p+l]?.getD 0=x by rw[G,z]);have J:=hide (show ys[q+l]?.getD 0=y by rw[H,C]);clear d s z C G H;by_cases f:x=y
   ·have t:((x:Int)==(y:Int))=true:=dI.2 (by omega);go_wp2_with fail;go_region;go_wp2_with fail;go_roundg (gk-1);case measure=>omega
    case rel=>
     refine⟨l+1,by simp,by omega,fun i hi=> ?_,c.drew⟩;by_cases D:i=l
     ·subst D;rw[I.o,J.o,f]
     ·exact k.o i (by omega)
   ·have t:((x:Int)==(y:Int))=false:=aX.2 (by omega);have v:=hide (RL ys m p q l (by omega) k.o (.inr (by rw[I.o,J.o];exact f)));clear f;go_wp2_with fail;go_region;go_wp2_with fail;go_ret;exact⟨by rw[<-v.o];rfl,c.drew⟩
  ·have r:¬(l:Int)<(m:Int):=(by omega);have v:=hide (RL ys m p q l (by omega) d (.inl (by omega)));clear d;go_wp2_with fail;go_region;go_wp2_with fail;go_ret;exact⟨by rw[<-v.o];rfl,c.drew⟩
def nL (ys:aD):Nat->Nat->Int
 |0=>fun _=> -1
 |n+1=>if n+3<=ys.length then fun t=>if t=CJ ys n then(n:Int)else nL ys n t else nL ys n
def nA (ys:aD):Nat->Nat->Int
 |0=>fun _=>0
 |n+1=>if n+3<=ys.length then fun p=>if p=n then nL ys n (CJ ys n)else nA ys n p else nA ys n
structure M4 (w:aH)(F j off cap gl ga:Nat)(ys:aD)(noted:Nat)(L A:Nat->Int):Prop where
 blk:w.heap[F]? =some (.cells #[.slice (some (U j off)) ys.length cap,V (noted:Nat), .slice (some (U gl 0)) 32768 32768, .slice (some (U ga 0)) ys.length ys.length] 182 (0,0))
 lies:nI w j off ys
 byte:∀i:Nat,ys[i]?.getD 0<256
 few:ys.length<=1048576
 last:bA w gl 3 32768 (fun s=>V (L s))
 ahead:bA w ga 3 ys.length (fun p=>V (A p))
 apart:F≠gl/\F≠ga/\gl≠ga/\j≠F/\j≠gl/\j≠ga
 lok:∀s,s<32768->L s= -1\/(0<=L s/\L s<noted/\L s+3<=ys.length)
 aok:∀p,p<noted->p+3<=ys.length->A p= -1\/(0<=A p/\A p<p)
 isL:L=nL ys noted
 isA:A=nA ys noted
def M4.src {L A:Nat->Int}(h:M4 w F j off cap gl ga ys noted L A):ao2 w F j off cap ys:=⟨aC h.blk 0 _ rfl,h.lies,h.byte,h.few⟩
def M4.step {S:Nat->Prop}{L A:Nat->Int}(h:M4 w F j off cap gl ga ys noted L A)(hs:Step S w w')(hn:¬S F/\¬S j/\¬S gl/\¬S ga):M4 w' F j off cap gl ga ys noted L A:=⟨hs.at_ h.blk hn.1,fun i hi=>hs.cell (p:=⟨j,off+i,none⟩) (h.lies i hi) hn.2.1,h.byte,h.few,h.last.step hs hn.2.2.1,h.ahead.step hs hn.2.2.2,h.apart,h.lok,h.aok,h.isL,h.isA⟩
def M4.step0 {L A:Nat->Int}(h:M4 w F j off cap gl ga ys noted L A)(hs:O w w'):M4 w' F j off cap gl ga ys noted L A:=h.step hs ⟨fun y=>y,fun y=>y,fun y=>y,fun y=>y⟩
def FS (F gl ga k:Nat):Prop:=k=F\/k=gl\/k=ga
def M4.skip {L A:Nat->Int}(h:M4 w F j off cap gl ga ys noted L A)(hn:¬noted+3<=ys.length):M4 (w.setCell (U F 1) (V ((noted:Int)+1))) F j off cap gl ga ys (noted+1) L A:=by
 obtain⟨a1,a2,g,c,k,l⟩:=h.apart;have hs:Step (·=F) w (w.setCell (U F 1) (V ((noted:Int)+1))):=(aU (·=F) w).setCell (p:=(U F 1)) rfl _;refine⟨?_,fun i hi=>hs.cell (p:=⟨j,off+i,none⟩) (h.lies i hi) c,h.byte,h.few,h.last.step hs (fun y=>a1 y.symm),h.ahead.step hs (fun y=>a2 y.symm),h.apart,fun s b=> ?_,fun p hp a=>h.aok p (by omega) a,by rw[nL,aB hn];exact h.isL,by rw[nA,aB hn];exact h.isA⟩
 ·have d:=aV h.blk 1 (V ((noted:Int)+1));simpa using d
 ·rcases h.lok s b with y|⟨e,m,f⟩
  ·exact .inl y
  ·exact .inr ⟨e,by omega,f⟩
def M4.put {L A:Nat->Int}(h:M4 w F j off cap gl ga ys noted L A)(s:Nat)(hs:s<32768)(m:s=CJ ys noted)(hn:noted+3<=ys.length):M4 (((w.setCell (U ga noted) (V (L s))).setCell (U gl s) (V noted)).setCell (U F 1) (V ((noted:Int)+1))) F j off cap gl ga ys (noted+1) (fun t=>if t=s then(noted:Int)else L t) (fun p=>if p=noted then L s else A p):=by
 obtain⟨a1,a2,l,o,r,u⟩:=h.apart;obtain⟨w1,a⟩:=aP (w.setCell (U ga noted) (V (L s)));obtain⟨w2,b⟩:=aP (w1.setCell (U gl s) (V noted));have e:Step (·=ga) w w1:=by rw[a];exact(aU (·=ga) w).setCell (p:=(U ga noted)) rfl _
 have f:Step (·=gl) w1 w2:=by rw[b];exact(aU (·=gl) w1).setCell (p:=(U gl s)) rfl _
 have g:Step (·=F) w2 (w2.setCell (U F 1) (V ((noted:Int)+1))):=(aU (·=F) w2).setCell (p:=(U F 1)) rfl _;have r1:bA w1 ga 3 ys.length (fun p=>V (if p=noted then L s else A p)):=by
  rw[a];exact(h.ahead.set noted (V (L s))).congr (fun i _=>by by_cases y:i=noted<;>simp[y])
 have C:bA w2 gl 3 32768 (fun t=>V (if t=s then(noted:Int)else L t)):=by
  rw[b];exact((h.last.step e l).set s (V noted)).congr (fun i _=>by by_cases y:i=s<;>simp[y])
 have c:=f.at_ (e.at_ h.blk a2) a1;rw[<-a,<-b];refine⟨?_,fun i hi=>g.cell (p:=⟨j,off+i,none⟩) (f.cell (p:=⟨j,off+i,none⟩) (e.cell (p:=⟨j,off+i,none⟩) (h.lies i hi) u) r) o,h.byte,h.few,C.step g (fun y=>a1 y.symm),(r1.step f (fun y=>l y.symm)).step g (fun y=>a2 y.symm),h.apart,fun t x=> ?_,fun p hp d=> ?_,by rw[nL,aA hn,<-m,<-h.isL],by rw[nA,aA hn,<-m,<-h.isL,<-h.isA]⟩
 ·have v:=aV c 1 (V ((noted:Int)+1));simpa using v
 ·by_cases y:t=s
  ·simp only[aA y];exact .inr ⟨by omega,by omega,by omega⟩
  ·simp only[aB y];rcases h.lok t x with z|⟨k,D,n⟩
   ·exact .inl z
   ·exact .inr ⟨k,by omega,n⟩
 ·by_cases y:p=noted
  ·simp only[aA y];rcases h.lok s hs with z|⟨k,D,n⟩
   ·exact .inl z
   ·exact .inr ⟨k,by omega⟩
  ·simp only[aB y];exact h.aok p (by omega) d
structure aB2 (w w':aH)(F j off cap gl ga noted q:Nat)(ys:aD):Prop where
 ex:∃n' L' A',(n'=noted\/n'=q)/\q<=n'/\M4 w' F j off cap gl ga ys n' L' A'/\Step (FS F gl ga) w w'
def aj8 (F j off cap gl ga noted q:Nat)(ys:aD)(L A:Nat->Int)(w:aH)(h:M4 w F j off cap gl ga ys noted L A)(hq:q<=ys.length):Calls prog 160 #[E F,V q] w fun e w'=>e= .returned (.tuple #[])/\aB2 w w' F j off cap gl ga noted q ys:=by
 have I:=h.few;go_enter func160,ntmps160;go_wp2_with fail;go_loopg [] (q-noted) (fun g wr=>∃(n:Nat) (k u:Nat->Int),(n=noted\/n<=q)/\g=q-n/\M4 wr F j off cap gl ga ys n k u/\Step (FS F gl ga) w wr);case atStart=>exact⟨noted,L,A, .inl rfl,rfl,h,aU _ _⟩
 case round=>
  obtain⟨n,k,u,hn,J,f,t⟩:=hrel;obtain⟨a1,a2,C,M,N,P⟩:=f.apart;have c1:wr.cell? (U F 1)=some (V n):=aC f.blk 1 _ rfl;have f1:wr.frozen? (U F 1)=false:=aJ f.blk 1;have T:=aO f.blk;by_cases Y:n<q
  ·have l:(n:Int)<(q:Int):=(by omega);have H:=hide (Pg F j off cap n ys wr f.src (by omega));go_wp2_with fail;apply H.o.mono;rintro r w1 ⟨m,i⟩;have a:=f.step0 i;have Q:w1.cell? (U F 1)=some (V n):=aC a.blk 1 _ rfl;have S:w1.frozen? (U F 1)=false:=aJ a.blk 1;have c:=hide (t.trans (i.mono (fun _ y=>y.elim)));by_cases v:n+3<=ys.length
   ·rw[aA v]at m;obtain⟨s,b⟩:=aP (CJ ys n);have hs:s<32768:=(by rw[b];exact Fp ys n);rw[<-b]at m;subst m;have R:w1.cell? (U F 2)=some (.slice (some (U gl 0)) 32768 32768):=aC a.blk 2 _ rfl;have D:w1.cell? (U F 3)=some (.slice (some (U ga 0)) ys.length ys.length):=aC a.blk 3 _ rfl;have l1:=a.last.cell s hs;have lf:=a.last.free s;have af:=a.ahead.free n;have Z:=a.ahead.cell n (by omega);have X:=a.last.lt;have W:=a.ahead.lt;have z:=hide (a.put s hs b v);have n1:¬F=gl:=a1;have n2:¬F=ga:=a2;have n3:¬gl=ga:=C;have n4:¬gl=F:=fun y=>a1 y.symm;have n5:¬ga=F:=fun y=>a2 y.symm;have n6:¬ga=gl:=fun y=>C y.symm;have s0:(0:Int)<=(s:Int):=(by omega);have s1:(s:Int)<32768:=(by omega);have m0:(0:Int)<=(n:Int):=(by omega);have m1:(n:Int)<(ys.length:Int):=(by omega);obtain⟨len,d⟩:=aP ys.length;rw[<-d]at D m1;obtain⟨x,G⟩:=aP (k s);rw[<-G]at l1;have K:=hide G;clear i H d G b a1 a2 C M N P;go_wp2_with fail;go_region;go_wp2_with fail;go_region;go_wp2_with fail;go_roundg (gk-1);case measure=>have:=J;omega
    case rel=>
     have hp:=z.o;rw[<-K.o]at hp;refine⟨n+1,_,_, .inr (by omega),by have:=J;omega,hp.step0 (((aU _ _).drew).drew),?_⟩;exact(((c.o.setCell (p:=(U ga n)) (.inr (.inr rfl)) _).setCell (p:=(U gl s)) (.inr (.inl rfl)) _).setCell (p:=(U F 1)) (.inl rfl) _).drew.drew
   ·rw[aB v]at m;subst m;have z:=hide (a.skip v);go_wp2_with fail;go_roundg (gk-1);case measure=>omega
    case rel=>exact⟨n+1,k,u, .inr (by omega),by omega,z.o,c.o.setCell (.inl rfl) _⟩
  ·have l:¬(n:Int)<(q:Int):=(by omega);go_wp2_with fail;go_end0;exact⟨rfl,⟨n,k,u,by omega,by omega,f,t⟩⟩
open Go.Shelf
def pR (q:Nat):Type:={ p:Nat // p<q/\q<=p+32768 }
def ak1 {q:Nat}(x:pR q):Array aK:=#[V (x.1:Nat)]
def z8 (ys:aD)(q:Nat):Nat->Int->aD
 |0,_=>[]
 |k+1,pv=>if pv= -1\/(q:Int)-pv>32768 then[]else pv.toNat::z8 ys q k (nA ys q pv.toNat)
def chain (ys:aD)(q:Nat):aD:=if q+3<=ys.length then z8 ys q 64 (nL ys q (CJ ys q))else[]
def spots {q:Nat}(xs:List (pR q)):aD:=xs.map (·.1)
def KpS (best n1:Nat)(A B:aH):Prop:=Step (fun k=>k=best\/n1<=k) A B
attribute [local go_sem] Oper.semAt_some
structure Jm (w:aH)(b1 b2 best n1 F j off cap gl ga q:Nat)(ys:aD)(L A:Nat->Int):Prop where
 f:M4 w F j off cap gl ga ys q L A
 c1:w.cell? (U b1 0)=some (E F)
 c2:w.cell? (U b2 0)=some (V (q:Nat))
 no:b1≠best/\b2≠best/\F≠best/\j≠best/\gl≠best/\ga≠best
 lo:b1<n1/\b2<n1/\F<n1/\j<n1/\gl<n1/\ga<n1
def Jm.kp {b1 b2:Nat}{L A:Nat->Int}(h:Jm w b1 b2 best n1 F j off cap gl ga q ys L A)(hk:KpS best n1 w w'):Jm w' b1 b2 best n1 F j off cap gl ga q ys L A:=by obtain⟨a1,a2,a,b,c,d⟩:=h.no;obtain⟨l1,l2,e,g,i,l6⟩:=h.lo;exact⟨h.f.step hk ⟨by omega,by omega,by omega,by omega⟩,Step.cell hk h.c1 (by dsimp only;omega),Step.cell hk h.c2 (by dsimp only;omega),h.no,h.lo⟩
set_option maxRecDepth 100000 in
def Lg (n:Nat)(hn:1<=n)(l b1 b2 best n1 F j off cap gl ga q:Nat)(ys:aD)(L A:Nat->Int)(hq:q<=ys.length)(J Jx:List (pR q)->aH->Prop)(W:aH)(hA:AbidesFrom W.heap.size J)(hY:∀pre x W,J pre W->pre.length<64->YieldAt Fence.wide (n-1) prog l (ak1 x) W fun e N=>(e= .returned (.bool true)/\J (pre++[x]) N/\KpS best n1 W N)\/(e= .returned (.bool false)/\Jx (pre++[x]) N))(hP:Jm W b1 b2 best n1 F j off cap gl ga q ys L A)(h0:J [] W):CallsIn Fence.wide n prog 182 #[.func (.yield l) #[] #[],E b1,E b2] W fun e N=>(∃v,e= .returned v)/\((∃xs,J xs N/\spots xs=chain ys q)\/(∃pre,Jx pre N/\spots pre <+:chain ys q)):=by
  refine GZ func182 rfl bT ?_ rfl;simp only[ntmps182,xD,iN,pE,Nat.reduceAdd,Nat.reduceSub,BS,CV,AR,CU,iO,jZ];have c1:=hP.c1;have c2:=hP.c2;have ak:=hP.f.few;have HS:=hide (Pg F j off cap q ys W hP.f.src (by omega));by_cases h3:q+3<=ys.length
  . have C:=hide (HS.o.mono (R':=fun e w'=>∃s:Nat,(s<32768/\s=CJ ys q/\e= .returned (.tuple #[V s, .bool true]))/\O W w') (fun e w' y=>by rw[aA h3]at y;exact⟨CJ ys q,⟨Fp ys q,rfl,y.1⟩,y.2⟩))
    gi_wp2_with (refine ⟨bT, ?_⟩; gi_at_call 181; apply (uV.2 C.o).mono; rintro e D ⟨s, ⟨hs, ac, rfl⟩, a⟩; have S := hide ac; clear ac; have b := hP.kp (w' := D) (show KpS best n1 W D from a.mono (fun _ y => y.elim)); have ag := b.c1; have ah := b.c2; have d2 : D.cell? (U F 2) = some (.slice (some (U gl 0)) 32768 32768) := aC b.f.blk 2 _ rfl; have l1 := b.f.last.cell s hs; have s0 : (0 : Int) <= (s : Int) := by omega
                 have s1:(s:Int)<32768:=by omega
                 have d:=hide b;clear b)
    have T:J [] D:=hA [] W D none h0 ⟨a.os,a.tape,a.output,a.size,fun k hk _=>a.block k hk (fun y=>y)⟩ (fun r e=>by cases e)
    have c:L s= -1\/(0<=L s/\L s<q/\L s+3<=ys.length):=d.o.f.lok s hs
    have Y:z8 ys q 64 (L s)=chain ys q:=by rw[d.o.f.isL,S.o,chain,aA h3]
    have ai:A=nA ys q:=d.o.f.isA
    clear S
    generalize L s=u at*
    clear C c1 c2 ag ah d2 l1 s0 s1 a h0 hA
    gi_loopw [6,22] (fun u6 u22 wr=>∃(k:Nat) (u:Int) (pre:List (pR q)),k<=64/\u22=V (k:Nat)/\u6=V u/\(u= -1\/(0<=u/\u<q/\u+3<=ys.length))/\pre.length=k/\spots pre++z8 ys q (64-k) u=chain ys q/\J pre wr/\KpS best n1 D wr) (fun _ i _=>64-(intOf i).toNat)
    case atStart=>exact⟨0,u,[],by omega,rfl,rfl,c,rfl,Y,T,aU _ _⟩
    case round=>
      clear c T Y;obtain⟨k,u,pre,hk,rfl,rfl,c,ab,Z,K,t⟩:=hrel;have z:=hide Z;clear Z;have R:=hide t;have m:=d.o.kp t;have r1:=m.c1;have r2:=m.c2;by_cases al:k<64
      . have aa:(k:Int)<64:=by omega
        rcases c with c|⟨am,an,ao⟩
        . subst c
          have HJ:=hide K
          have Q:=hide (show spots pre=chain ys q by rw[<-z.o,show 64-k=63-k+1 by omega,z8,aA (.inl rfl),bG])
          clear K m t
          gi_wp2
          refine⟨fun _ y=>(by cases y),?_⟩
          gi_wp2
          refine aY (mD rfl _ _ _) rfl ?_
          exact⟨⟨_,rfl⟩, .inl ⟨_,HJ.o,Q.o⟩⟩
        . obtain⟨p,rfl⟩:∃p:Nat,u=(p:Int):=⟨u.toNat,by omega⟩
          have e1:((p:Int)== -1)=false:=aX.2 (by omega)
          by_cases H:q<=p+32768
          . have e2:¬(q:Int)-(p:Int)>32768:=by omega
            have P:=hide (show spots (pre++[⟨p,by omega,H⟩])++z8 ys q (64-(k+1)) (nA ys q p)=chain ys q by
              rw[<-z.o,show 64-k=64-(k+1)+1 by omega,z8,aB (by omega),show((p:Int)).toNat=p by omega];simp only[spots,sS,dB];rfl)
            obtain⟨fn,tmps,ad,aj,hy,hR⟩:=hY pre ⟨p,by omega,H⟩ wr K (by omega)
            unfold ak1 at hy
            dsimp only at hy
            have HR:=hide hR
            clear K m t hR hY
            gi_wp2
            apply HR.o.mono
            rintro e W3 (⟨rfl,X,M⟩|⟨rfl,G⟩)
            . have g:=d.o.kp (Step.trans R.o M)
              have ap:=g.c1
              have d3:W3.cell? (U F 3)=some (.slice (some (U ga 0)) ys.length ys.length):=aC g.f.blk 3 _ rfl
              have l3:=g.f.ahead.cell p (by omega)
              have ha:=g.f.aok p (by omega) (by omega)
              have p0:(0:Int)<=(p:Int):=by omega
              have p1:(p:Int)<(ys.length:Int):=by omega
              have I:=hide X
              have ae:=hide M
              obtain⟨x,hx⟩:=aP (A p)
              have af:=hide (show x=nA ys q p by rw[hx,ai])
              rw[<-hx]at l3 ha
              clear hx X g M r1 r2 e1 e2
              gi_wp2
              go_roundw
              case rel=>exact⟨k+1,x,_,by omega,by go_num,rfl,by omega,by rw[aN,ab];rfl,by rw[af.o];exact P.o,I.o,Step.trans R.o ae.o⟩
              case measure=>simp[intOf];omega
            . have I:=hide G
              clear G
              gi_wp2
              refine aY (mD rfl _ _ _) rfl ?_
              exact⟨⟨_,rfl⟩, .inr ⟨_,I.o,⟨_,P.o⟩⟩⟩
          . have e2:(q:Int)-(p:Int)>32768:=by omega
            have HJ:=hide K
            have Q:=hide (show spots pre=chain ys q by rw[<-z.o,show 64-k=63-k+1 by omega,z8,aA (.inr e2),bG])
            clear K m t
            gi_wp2
            refine⟨fun _ y=>(by cases y),?_⟩
            gi_wp2
            refine aY (mD rfl _ _ _) rfl ?_
            exact⟨⟨_,rfl⟩, .inl ⟨_,HJ.o,Q.o⟩⟩
      . have aa:¬(k:Int)<64:=by omega
        have Q:=hide (show spots pre=chain ys q by rw[<-z.o,show 64-k=0 by omega,z8,bG])
        gi_wp2
        go_end0
        exact⟨⟨_,rfl⟩, .inl ⟨_,K,Q.o⟩⟩
  . have C:=hide (HS.o.mono (R':=fun e w'=>e= .returned (.tuple #[V 0, .bool false])/\O W w') (fun e w' y=>by rw[aB h3]at y;exact y))
    gi_wp2_with (refine⟨bT,?_⟩;gi_at_call 181;apply(uV.2 C.o).mono;rintro e D ⟨rfl,a⟩)
    refine aY (mD rfl _ _ _) rfl ?_
    exact⟨⟨_,rfl⟩,   .inl ⟨[],hA [] W D none h0 ⟨a.os,a.tape,a.output,a.size,fun k hk _=>a.block k hk (fun y=>y)⟩ (fun r e=>by cases e),by rw[chain,aB h3];rfl⟩⟩
def YN (n:Nat)(hn:1<=n)(b1 b2 best n1 F j off cap gl ga q:Nat)(ys:aD)(L A:Nat->Int)(p:q<=ys.length)(w:aH)(hP:Jm w b1 b2 best n1 F j off cap gl ga q ys L A):SeqStopsK Fence.wide n prog 182 #[E b1,E b2] ak1 (KpS best n1) (fun(xs:List (pR q))=>spots xs=chain ys q) (fun pre=>spots pre <+:chain ys q) 64 w:=fun l J g W a m _ o i=>by
 have b:Jm W b1 b2 best n1 F j off cap gl ga q ys L A:=hP.kp ⟨a.os,a.tape,a.output,a.size,fun k hk _=>a.block k hk⟩
 apply(Lg n hn l b1 b2 best n1 F j off cap gl ga q ys L A p J g W m o b i).mono
 rintro e r ⟨f,⟨xs,c,d⟩|⟨pre,c,d⟩⟩
 ·exact⟨f, .inl ⟨xs,d,c⟩⟩
 ·exact⟨f, .inr ⟨pre,d,c⟩⟩
def Wj (n:Nat)(F q:Nat)(w:aH):CallsIn Fence.wide n prog 161 #[E F,V q] w fun e w'=>e= .returned (.func (.func 182) #[] #[E w.heap.size, .pointer (some ⟨w.heap.size+1,0,none⟩)])/\w'=(w.alloc (.cells #[E F] 156)).alloc (.cells #[V q] 3):=by refine GZ func161 rfl bT ?_ rfl;simp only[ntmps161,xD,iN,pE,Nat.reduceAdd,Nat.reduceSub,BS,CV,AR,CU,iO,jZ];gi_wp2;go_ret;exact⟨rfl,rfl⟩
structure Pc where
 b:Nat
 l:Nat
 d:Nat
def Pc.cells (p:Pc):Array aK:=#[.int .u8 (p.b:Nat),V (p.l:Nat),V (p.d:Nat)]
def NN (ys:aD)(q:Nat)(p:Pc):Prop:=
 (p.l=0/\p.b=ys[q]?.getD 0)\/(3<=p.l/\p.l<=258/\q+p.l<=ys.length/\1<=p.d/\p.d<=32768/\p.d<=q/\p.b=0/\∀i,i<p.l->ys[q-p.d+i]?.getD 0=ys[q+i]?.getD 0)
def rR (ys:aD)(q m:Nat)(b:Pc)(p:Nat):Pc:=if b.l<fA ys p q m/\mU (fA ys p q m) (q-p)=true then⟨0,fA ys p q m,q-p⟩else b
def GH (ys:aD)(q m:Nat)(ps:aD):Pc:=ps.foldl (rR ys q m) ⟨ys[q]?.getD 0,0,0⟩
def wW (ys:aD)(q m:Nat):aD->Pc->Pc
 |[],b=>b
 |p::ps,b=>if fA ys p q m=m then rR ys q m b p else wW ys q m ps (rR ys q m b p)
def XG (ys:aD)(q m:Nat):∀(a:aD) (b:Pc),(∀p∈a,fA ys p q m≠m)->wW ys q m a b=a.foldl (rR ys q m) b
 |[],_,_=>rfl
 |p::a,b,h=>by
  rw[wW,aB (h p (by simp)),XG ys q m a _ (fun x c=>h x (by simp[c]))]
  rfl
def TI (ys:aD)(q m x:Nat)(c:fA ys x q m=m)(r:aD):∀(a:aD) (b:Pc),(∀p∈a,fA ys p q m≠m)->wW ys q m (a++[x]++r) b=(a++[x]).foldl (rR ys q m) b
 |[],b,_=>by
  show wW ys q m (x::r) b=_
  rw[wW,aA c]
  rfl
 |p::a,b,h=>by
  show wW ys q m (p::(a++[x]++r)) b=_
  rw[wW,aB (h p (by simp)),TI ys q m x c r a _ (fun y d=>h y (by simp[d]))]
  rfl
def MS (ys:aD)(q:Nat):Pc:=wW ys q (min 258 (ys.length-q)) (chain ys q) ⟨ys[q]?.getD 0,0,0⟩
def Wy {m p:Nat}{b:Pc}(c:NN ys q b/\(b.l≠0->mU b.l b.d=true))(hp:p<q/\q<=p+32768)(f:m<=258/\q+m<=ys.length):NN ys q (rR ys q m b p)/\((rR ys q m b p).l≠0->mU (rR ys q m b p).l (rR ys q m b p).d=true):=by
 unfold rR;split
 ·rename_i h;have a:3<=fA ys p q m:=by
   have h:=h.2;unfold mU at h;simp only[Bool.or_eq_true,DI,DC]at h;omega
  have e:=U3 ys m p q;refine⟨.inr ⟨a,by dsimp only;omega,by dsimp only;omega,by dsimp only;omega,by dsimp only;omega,by dsimp only;omega,rfl,fun i hi=> ?_⟩,fun _=>h.2⟩;dsimp only at hi|-
  rw[show q-(q-p)=p by omega];exact ZP ys m p q i hi
 ·exact c
def Bz {ys:aD}{q m:Nat}(c:m<=258/\q+m<=ys.length):∀{a:aD} {b:Pc},(∀p∈a,p<q/\q<=p+32768)->NN ys q b/\(b.l≠0->mU b.l b.d=true)->NN ys q (a.foldl (rR ys q m) b)/\((a.foldl (rR ys q m) b).l≠0->mU (a.foldl (rR ys q m) b).l (a.foldl (rR ys q m) b).d=true)
 |[],_,_,hb=>hb
 |p::a,b,h,hb=>by
  rw[List.foldl_cons]
  exact Bz c (fun x e=>h x (by simp[e])) (Wy hb (h p (by simp)) c)
structure Jt (ys:aD)(q:Nat)(p:Pc):Prop where
 ok:NN ys q p
 is_:p=MS ys q
 pays:p.l≠0->mU p.l p.d=true
def X4 (ys:aD)(q:Nat):Pc:=if(MS ys q).l=0\/32<=(MS ys q).l then MS ys q else if(MS ys q).l<(MS ys (q+1)).l then⟨ys[q]?.getD 0,0,0⟩else MS ys q
structure Jz (ys:aD)(q:Nat)(p:Pc):Prop where
 ok:NN ys q p
 is_:p=X4 ys q
 pays:p.l≠0->mU p.l p.d=true
structure InC (w1:aH)(best n1 q m:Nat)(ys:aD)(pre:List (pR q))(W:aH):Prop where
 st:KpS best n1 w1 W
 blk:W.heap[best]? =some (.cells (GH ys q m (spots pre)).cells 159 (0,0))
def U0 (ys:aD)(q m:Nat)(ps:aD):Prop:=∀p∈ps,fA ys p q m≠m
def Hy (ys:aD)(q m:Nat)(ps:aD):Prop:=∃ps' x,ps=ps'++[x]/\U0 ys q m ps'/\fA ys x q m=m
def Zd (pre:List (pR q)):∀p∈spots pre,p<q/\q<=p+32768:=by intro p hp;simp only[spots,sU]at hp;obtain⟨x,_,rfl⟩:=hp;exact x.2
def Ip (pre:List (pR q))(x:pR q):spots (pre++[x])=spots pre++[x.1]:=by unfold spots;rw[sS];rfl
def SY (ys:aD)(q m:Nat)(a:aD)(p:Nat):GH ys q m (a++[p])=rR ys q m (GH ys q m a) p:=by unfold GH;rw[List.foldl_append];rfl
def InC.grown {w1:aH}{m:Nat}{pre:List (pR q)}{row:Option Nat}(h:InC w1 best n1 q m ys pre A)(a:A.grownBy B row)(c:best<n1)(b:∀r,row=some r->n1<=r):InC w1 best n1 q m ys pre B:=⟨Step.grown h.st a (fun k e=> .inl (.inr (b k e))),(a.block best (aO h.blk) (fun e=>by have:=b _ e.symm;omega)).trans h.blk⟩
def Gh {b t:Nat}{u v x:aK}(h:w.heap[b]? =some (.cells #[u,v,x] t (0,0)))(a c x':aK):(((w.setCell (U b 0) a).setCell (U b 1) c).setCell (U b 2) x').heap[b]? =some (.cells #[a,c,x'] t (0,0)):=by have d:=aV h 0 a;have e:=aV d 1 c;have f:=aV e 2 x';simpa using f
def GX (h:Step (·=best) A B)(b:best<n1):KeepsFrom n1 A B:=⟨h.size,fun _ _ hk a _=>h.at_ a (by omega)⟩
def Il (h:Step (·=best) A B):KpS best n1 A B:=h.mono (fun _ y=> .inl y)
def sH:Code->Option Code
 | .rangeFunc _ _ _ c=>some c
 | .seq a b=>match sH a with
  |some c=>some c
  |none=>sH b
 | .block _ c=>sH c
 | .scope c=>sH c
 | .cond _ a b=>match sH a with
  |some c=>some c
  |none=>sH b
 |_=>none
noncomputable def Xv:Code:=((f134.body.bind sH).getD .skip)
attribute [local go_sem] Oper.semAt_some
set_option maxRecDepth 100000 in
def Td (l:Nat)(Q:Exit->Act->aH->Prop)(R S F j off cap q p m:Nat)(ys:aD)(W:aH)(t:Pc)(bx:ys.length<=1048576)(cg:p<q)(cf:q+m<=ys.length)(M:ao2 W F j off cap ys)(t0:W.cell? (U R 0)=some (E F))(t1:W.cell? ⟨R+1,0,none⟩=some (V q))(t2:W.cell? ⟨S+1,0,none⟩=some (V m))(bw:W.heap[S]? =some (.cells t.cells 159 (0,0)))(D:∀a s,O W s->¬(t.l<fA ys p q m/\mU (fA ys p q m) (q-p)=true)->(fA ys p q m≠m->Q .normal a s)/\(fA ys p q m=m->Q (.exit 0) a s))(L:∀a s c,O W s->c=fA ys p q m->t.l<c->mU c (q-p)=true->(c≠m->Q .normal a (((s.setCell (U S 0) (.int .u8 0)).setCell (U S 1) (V (c:Nat))).setCell (U S 2) (V ((q-p:Nat):Int))))/\(c=m->Q (.exit 0) a (((s.setCell (U S 0) (.int .u8 0)).setCell (U S 1) (V (c:Nat))).setCell (U S 2) (V ((q-p:Nat):Int)))))(c0 c1 c4 c8 c9 T X Y Z aa ab ac ad ae af ag ah ai aj ak al am an ao ap aq ar au av aw ax ay az ba bb bc be bf bg bh bj bk bl bn bo bp bq br bs bt bu bv:aK):Xv.wpIn (Fence.wide.inRound l) 1 prog Q ⟨#[c0,c1,E R, .pointer (some ⟨R+1,0,none⟩),c4,E S, .pointer (some ⟨S+1,0,none⟩),V p,c8,c9,T,X,Y,Z,aa,ab,ac,ad,ae,af,ag,ah,ai,aj,ak,al,am,an,ao,ap,aq,ar,au,av,aw,ax,ay,az,ba,bb,bc,be,bf,bg,bh,bj,bk,bl,bn,bo,bp,bq,br,bs,bt,bu,bv],[]⟩ W:=by
 conv=>arg 4;whnf
 have HC:=hide (Us F j off cap p q m ys W M (by omega) (by omega));have N:=hide bw;have H:=hide D;have v:=hide L;gi_wp2;refine⟨bT,(CallsIn.inRound l (uV.2 HC.o)).mono ?_⟩;rintro e s ⟨rfl,n⟩;obtain⟨c,k⟩:=aP (fA ys p q m);have ce:c<=m:=by rw[k];exact U3 ys m p q
 rw[<-k];have r:=H.o;rw[<-k]at r;have g:=hide r;have G:=hide k;clear r H k;have u0:=n.cell t0 (fun y=>y);have u1:=n.cell t1 (fun y=>y);have u2:=n.cell t2 (fun y=>y);have I:=n.at_ N.o (fun y=>y);obtain⟨g0,g1,bz,ca,g2,cb⟩:=fV (show s.heap[S]? =some (.cells #[.int .u8 (t.b:Nat),V t.l,V t.d] 159 (0,0)) from I);have i:=hide n;have cc:=aO I;obtain⟨C,J⟩:∃C,((c:Int)==(m:Int))=C:=⟨_,rfl⟩
 have z:=hide (show C=true->c=m from fun e=>by rw[e,dI]at J;omega);have x:=hide (show C=false->c≠m from fun e=>by rw[e,aX]at J;omega);by_cases u:t.l<c
 ·have K:(c:Int)>(t.l:Int):=by omega
  obtain⟨d,hd⟩:=aP (q-p);have cd:(q:Int)-(p:Int)=(d:Int):=by omega
  have P:=hide hd;clear hd;gi_wp2;refine⟨bT,(CallsIn.inRound l (uV.2 (aj2 c d s))).mono ?_⟩;rintro e W2 ⟨rfl,rfl⟩;cases hpay:mU c d with
  |true=>
   have f:=hide hpay;clear hpay;cases C with
   |true=>
    gi_wp2;have hp:=v.o;rw[<-P.o]at hp;exact(hp _ _ c i.o G.o u f.o).2 (z.o bT)
   |false=>
    gi_wp2;have hp:=v.o;rw[<-P.o]at hp;exact(hp _ _ c i.o G.o u f.o).1 (x.o bT)
  |false=>
   have f:=hide (show¬(t.l<c/\mU c (q-p)=true) from fun y=>by rw[<-P.o,hpay]at y;exact absurd y.2 (by decide));cases C with
   |true=>
    gi_wp2;exact(g.o _ _ i.o f.o).2 (z.o bT)
   |false=>
    gi_wp2;exact(g.o _ _ i.o f.o).1 (x.o bT)
 ·have K:¬(c:Int)>(t.l:Int):=by omega
  cases C with
  |true=>
   gi_wp2;refine⟨bT,?_⟩;gi_wp2;exact(g.o _ _ i.o (fun y=>u y.1)).2 (z.o bT)
  |false=>
   gi_wp2;refine⟨bT,?_⟩;gi_wp2;exact(g.o _ _ i.o (fun y=>u y.1)).1 (x.o bT)
def qF:Code->Option Code
 | .rangeFunc g ps a c=>some (.rangeFunc g ps a c)
 | .seq a b=>match qF a with
  |some c=>some c
  |none=>qF b
 | .block _ c=>qF c
 | .scope c=>qF c
 | .cond _ a b=>match qF a with
  |some c=>some c
  |none=>qF b
 |_=>none
noncomputable def Yf:Code:=((f134.body.bind qF).getD .skip)
attribute [local go_sem] Oper.semAt_some
structure Yq (w5:aH)(R S F j off cap gl ga q m:Nat)(ys:aD)(L A:Nat->Int):Prop where
 hP:Jm w5 (S+1+1) (S+1+1+1) S (S+4) F j off cap gl ga q ys L A
 hI:InC w5 S (S+4) q m ys [] w5
 b0:w5.heap[R]? =some (.cells #[E F] 156 (0,0))
 b1:w5.heap[R+1]? =some (.cells #[V (q:Nat)] 3 (0,0))
 mo:w5.heap[S+1]? =some (.cells #[V (m:Nat)] 3 (0,0))
 size:w5.heap.size=S+4
 lt:R+1<S
 most:m<=258
 fits:q+m<=ys.length
set_option maxRecDepth 100000 in
def Rw (Q:Exit->Act->aH->Prop)(R S F j off cap gl ga q m:Nat)(ys:aD)(L A:Nat->Int)(w5:aH)(h:Yq w5 R S F j off cap gl ga q m ys L A)(c0 c1 c4 c7 c8 c9 J M N P T X Y Z aa ab ac ad ae af ag ah ai aj ak al bt am an ao ap aq ar au av aw ax ay az ba bb bc be bf bg bh bj bk bl bm bn bo:aK)(bs:∀D W,w5.heap.size<=D->KpS S (S+4) w5 W->W.heap[S]? =some (.cells (wW ys q m (chain ys q) ⟨ys[q]?.getD 0,0,0⟩).cells 159 (0,0))->(∃pre:List (pR q),wW ys q m (chain ys q) ⟨ys[q]?.getD 0,0,0⟩=GH ys q m (spots pre))->W.heap[D]? =some (.deferred (some []))->Q .normal ⟨#[c0,c1,E R, .pointer (some ⟨R+1,0,none⟩),c4,E S, .pointer (some ⟨S+1,0,none⟩),c7,c8,c9,J,M,N,P,T,X,Y,Z,aa,ab,ac,ad,ae,af,ag,ah,ai,aj,ak,al, .func (.func 182) #[] #[.pointer (some ⟨S+1+1,0,none⟩), .pointer (some ⟨S+1+1+1,0,none⟩)],bt,am,an,ao,ap,aq,ar,au,av,aw,ax,ay,az,ba,bb,bc,be,bf,bg,bh,bj,bk,bl,bm,bn,bo],[{ target:= .collected D,args:=#[] }]⟩ W/\Q (.exit 0) ⟨#[c0,c1,E R, .pointer (some ⟨R+1,0,none⟩),c4,E S, .pointer (some ⟨S+1,0,none⟩),c7,c8,c9,J,M,N,P,T,X,Y,Z,aa,ab,ac,ad,ae,af,ag,ah,ai,aj,ak,al, .func (.func 182) #[] #[.pointer (some ⟨S+1+1,0,none⟩), .pointer (some ⟨S+1+1+1,0,none⟩)],bt,am,an,ao,ap,aq,ar,au,av,aw,ax,ay,az,ba,bb,bc,be,bf,bg,bh,bj,bk,bl,bm,bn,bo],[{ target:= .collected D,args:=#[] }]⟩ W):Yf.wpIn Fence.wide 3 prog Q ⟨#[c0,c1,E R, .pointer (some ⟨R+1,0,none⟩),c4,E S, .pointer (some ⟨S+1,0,none⟩),c7,c8,c9,J,M,N,P,T,X,Y,Z,aa,ab,ac,ad,ae,af,ag,ah,ai,aj,ak,al, .func (.func 182) #[] #[.pointer (some ⟨S+1+1,0,none⟩), .pointer (some ⟨S+1+1+1,0,none⟩)],bt,am,an,ao,ap,aq,ar,au,av,aw,ax,ay,az,ba,bb,bc,be,bf,bg,bh,bj,bk,bl,bm,bn,bo],[]⟩ w5:=by
 conv=>arg 4;whnf
 have ch:=h.size;have ce:=h.lt
 refine wpIn_rangeFunc_ownG (F:=Fence.wide) rfl (by omega) (gf:=182) (lb:=#[.pointer (some ⟨S+1+1,0,none⟩), .pointer (some ⟨S+1+1+1,0,none⟩)]) rfl bT (enters_of func182 (by kernel_rfl) rfl)
  (YN _ (by omega) (S+1+1) (S+1+1+1) S (S+4) F j off cap gl ga q ys L A (by have:=h.fits;omega) w5 h.hP) (fun h k=>Step.trans h k) ?hKb (qK _ _) (fun _=>rfl)
  (fun pre W=>InC w5 S (S+4) q m ys pre W/\U0 ys q m (spots pre)) (fun c pre W=>c= .exit 0/\InC w5 S (S+4) q m ys pre W/\Hy ys q m (spots pre)) ?hI ?hIx ⟨h.hI,fun p hp=>by simp[spots]at hp⟩
  (fun x=>{ tmps:=#[c0,c1,E R, .pointer (some ⟨R+1,0,none⟩),c4,E S, .pointer (some ⟨S+1,0,none⟩),V x.1,c8,c9,J,M,N,P,T,X,Y,Z,aa,ab,ac,ad,ae,af,ag,ah,ai,aj,ak,al, .func (.func 182) #[] #[.pointer (some ⟨S+1+1,0,none⟩), .pointer (some ⟨S+1+1+1,0,none⟩)],V x.1,am,an,ao,ap,aq,ar,au,av,aw,ax,ay,az,ba,bb,bc,be,bf,bg,bh,bj,bk,bl,bm,bn,bo],defers:=[] }) ?assign ?body ?done ?stop
 case hKb=>
  intro W l o o' hl _ _ _;exact(aU _ W).grown (grownBy_putObj' W l o') (fun k e=>by cases e;exact .inl (.inr (by omega)))
 case hI=>
  intro s A B row hs hg hr;exact⟨InC.grown hs.1 hg (by omega) (fun r e=>by have:=(hr r e).1;omega),hs.2⟩
 case hIx=>
  intro c s A B row hs hg hr;exact⟨hs.1,hs.2.1.grown hg (by omega) (fun r e=>by have:=(hr r e).1;omega),hs.2.2⟩
 case assign=>
  intro l x W K hK;dsimp only[ak1];gi_wp2;exact hK
 case body=>
  rintro l pre ⟨p,H,I⟩ W ⟨hs,br⟩ cg;have bq:=hs.blk;have z:=hs.st;have bw:=h.hP.kp z;have hm:=h.fits;have cf:=h.most;have t0:W.cell? (U R 0)=some (E F):=aC (Step.at_ z h.b0 (by omega)) 0 _ rfl;have t1:W.cell? ⟨R+1,0,none⟩=some (V q):=aC (Step.at_ z h.b1 (by omega)) 0 _ rfl;have t2:W.cell? ⟨S+1,0,none⟩=some (V m):=aC (Step.at_ z h.mo (by omega)) 0 _ rfl;obtain⟨pc,bv⟩:=aP (GH ys q m (spots pre));rw[<-bv]at bq;have bp:spots (pre++[⟨p,H,I⟩])=spots pre++[p]:=Ip pre _;have C:fA ys p q m≠m->U0 ys q m (spots (pre++[⟨p,H,I⟩])):=fun h y hy=>by
   rw[bp]at hy;rcases iF.1 hy with hy|hy
   ·exact br y hy
   ·simp only[qB]at hy;rw[hy];exact h
  have G:fA ys p q m=m->Hy ys q m (spots (pre++[⟨p,H,I⟩])):=fun h=>⟨spots pre,p,bp,br,h⟩
  have i:∀g,O W g->¬(pc.l<fA ys p q m/\mU (fA ys p q m) (q-p)=true)->KeepsFrom w5.heap.size W g/\KpS S (S+4) W g/\InC w5 S (S+4) q m ys (pre++[⟨p,H,I⟩]) g:=fun g n cb=>
   ⟨GX (best:=S) (n.mono (fun _ y=>y.elim)) (by omega),Il (n.mono (fun _ y=>y.elim)),Step.trans z (n.mono (fun _ y=>y.elim)),by
    rw[bp,SY,<-bv,rR,aB cb];exact n.at_ bq (fun y=>y)⟩
  have u:∀g v,O W g->v=fA ys p q m->pc.l<v->mU v (q-p)=true->
    KeepsFrom w5.heap.size W (((g.setCell (U S 0) (.int .u8 0)).setCell (U S 1) (V (v:Nat))).setCell (U S 2) (V ((q-p:Nat):Int)))/\
    KpS S (S+4) W (((g.setCell (U S 0) (.int .u8 0)).setCell (U S 1) (V (v:Nat))).setCell (U S 2) (V ((q-p:Nat):Int)))/\
    InC w5 S (S+4) q m ys (pre++[⟨p,H,I⟩]) (((g.setCell (U S 0) (.int .u8 0)).setCell (U S 1) (V (v:Nat))).setCell (U S 2) (V ((q-p:Nat):Int))):=fun g v n hl ca bx=>by
   have t:Step (·=S) W (((g.setCell (U S 0) (.int .u8 0)).setCell (U S 1) (V (v:Nat))).setCell (U S 2) (V ((q-p:Nat):Int))):=
    (((n.mono (S':=(·=S)) (fun _ y=>y.elim)).setCell (p:=(U S 0)) rfl _).setCell (p:=(U S 1)) rfl _).setCell (p:=(U S 2)) rfl _
   refine⟨GX t (by omega),Il t,Step.trans z (Il t),?_⟩;rw[bp,SY,<-bv,rR,<-hl,aA ⟨ca,bx⟩];exact Gh (show g.heap[S]? =some (.cells #[.int .u8 (pc.b:Nat),V pc.l,V pc.d] 159 (0,0)) from n.at_ bq (fun y=>y)) _ _ _
  exact Td l _ R S F j off cap q p m ys W pc bw.f.few (by omega) hm bw.f.src t0 t1 t2 bq
   (fun a g n t=>⟨fun h9=>⟨(i g n t).1,(i g n t).2.1,(i g n t).2.2,C h9⟩,fun h9=>⟨(i g n t).1,rfl,(i g n t).2.2,G h9⟩⟩)
   (fun a g v n t h3 h4=>⟨fun h9=>⟨(u g v n t h3 h4).1,(u g v n t h3 h4).2.1,(u g v n t h3 h4).2.2,C (by rw[<-t];exact h9)⟩,fun h9=>⟨(u g v n t h3 h4).1,rfl,(u g v n t h3 h4).2.2,G (by rw[<-t];exact h9)⟩⟩)
   _ _ _ _ _ _ _ _ _ _ _ _ _ _ _ _ _ _ _ _ _ _ _ _ _ _ _ _ _ _ _ _ _ _ _ _ _ _ _ _ _ _ _ _ _ _ _ _ _ _ _ _
 case done=>
  rintro Dd xs W bu cc ⟨hs,br⟩ hK;have e:wW ys q m (chain ys q) ⟨ys[q]?.getD 0,0,0⟩=GH ys q m (spots xs):=by rw[<-cc];exact XG ys q m _ _ br
  exact(bs Dd W bu hs.st (by rw[e];exact hs.blk) ⟨xs,e⟩ hK).1
 case stop=>
  rintro Dd c pre W bu bz ⟨rfl,hs,cd,x,n,t,h3⟩ hK;have e:wW ys q m (chain ys q) ⟨ys[q]?.getD 0,0,0⟩=GH ys q m (spots pre):=by
   obtain⟨r,hr⟩:=bz;rw[<-hr,n];exact TI ys q m x h3 r cd _ t
  exact wpIn_exit (bs Dd W bu hs.st (by rw[e];exact hs.blk) ⟨pre,e⟩ hK).2
def yM:Code->Option Code
 | .seq a b=>match qF a with
  |some _=>some b
  |none=>yM b
 | .block _ c=>yM c
 | .scope c=>yM c
 |_=>none
noncomputable def Yk:Code:=((f134.body.bind yM).getD .skip)
attribute [local go_sem] Oper.semAt_some
set_option maxRecDepth 100000 in
def Ur (f:Ending->aH->Prop)(R S D:Nat)(W:aH)(a:Pc)(u v x:aK)(bc:W.heap[S]? =some (.cells a.cells 159 (0,0)))(hr:W.heap[R]? =some (.cells #[u,v,x] 159 (0,0)))(hK:W.heap[D]? =some (.deferred (some [])))(c:D≠R)(i:f (.returned (.agg a.cells)) ((((W.setCell (U R 0) (.int .u8 (a.b:Nat))).setCell (U R 1) (V a.l)).setCell (U R 2) (V a.d)).putObj D (.deferred none)))(c0 c1 c2 c3 c6 c7 c8 c9 m n o p r s t y z C G H I J K L M N P Q T X Y Z aa ab ac ad ae af ag ah ai aj ak al am an ao ap aq ar au av aw ax ay:aK):Yk.wpIn Fence.wide 3 prog (bodyPostM Fence.wide 3 prog f134 f) ⟨#[c0,c1,c2,c3,E R,E S,c6,c7,c8,c9,m,n,o,p,r,s,t,y,z,C,G,H,I,J,K,L,M,N,P,Q,T,X,Y,Z,aa,ab,ac,ad,ae,af,ag,ah,ai,aj,ak,al,am,an,ao,ap,aq,ar,au,av,aw,ax,ay],[{ target:= .collected D,args:=#[] }]⟩ W:=by
 conv=>arg 4;whnf
 obtain⟨g0,g1,be,bf,g2,bg⟩:=fV hr;obtain⟨t0,t1,bh,bj,t2,bk⟩:=fV (show W.heap[S]? =some (.cells #[.int .u8 (a.b:Nat),V a.l,V a.d] 159 (0,0)) from bc);gi_wp2;obtain⟨k,g⟩:=aP (((W.setCell (U R 0) (.int .u8 (a.b:Nat))).setCell (U R 1) (V a.l)).setCell (U R 2) (V a.d));have ba:k.heap[R]? =some (.cells #[.int .u8 (a.b:Nat),V a.l,V a.d] 159 (0,0)):=by rw[g];exact Gh hr _ _ _
 have az:k.heap[D]? =some (.deferred (some [])):=by
  rw[g];exact(cZ _ _ _ _ c).trans ((cZ _ _ _ _ c).trans ((cZ _ _ _ _ c).trans hK))
 have hP:=i;rw[<-g]at hP|-
 have bb:(k.putObj D (.deferred none)).heap[R]? =some (.cells #[.int .u8 (a.b:Nat),V a.l,V a.d] 159 (0,0)):=(World.putObj_heap_other (fun e=>c e.symm)).trans ba;obtain⟨p0,p1,_,_,p2,_⟩:=fV bb;refine⟨by simp, .inl ⟨_,_,rfl,run_takeDeferred az,?_⟩⟩;exact⟨.agg a.cells,by simp[results,results134,go_sem,p0,p1,p2,Pc.cells],hP⟩
end Go.Proofs.YtbpahojchgpdnaaGreatDoor
