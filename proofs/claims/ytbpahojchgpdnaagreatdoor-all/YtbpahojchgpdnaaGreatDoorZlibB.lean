import Derived.Test.YtbpahojchgpdnaaGreatDoorLinked
set_option maxRecDepth 20000
set_option maxHeartbeats 4000000
set_option linter.all false
namespace Go.Proofs.YtbpahojchgpdnaaGreatDoor
open Go.RowKit Go.dM Go.Maps Go.Proofs.Tryz
variable {B out ys:aD} {P base e i most:Nat} {w:aH} {v:aK}
def qJ (most p:Nat):GS:={ rQ most with p:=p }
def I7 (B:aD)(q:Nat)(o:aD)(e:Nat)(out:aD)(used:Nat):Prop:=
 out=o/\if q+32<=8*B.length then(if jB B q 4=dZ 1 o then e=0/\used=q/8+4 else e=12/\used=0)else e=3/\used=0
def Gd (B:aD)(most p e:Nat)(out:aD)(used:Nat):Prop:=
 ∃n e1 o1 q1,eZ B n (qJ most p) e1 o1 q1/\if e1=0 then I7 B q1 o1 e out used else e=e1/\out=o1/\used=0
def UK (B:aD)(most p c e:Nat)(out:aD)(used:Nat):Prop:=
 if p+8<=8*B.length then(if zC c (aG B p 8)then Gd B most (p+8) e out used else e=4/\out=[]/\used=0)else e=3/\out=[]/\used=0
def xO (B:aD)(most e:Nat)(out:aD)(used:Nat):Prop:=
 if 0+8<=8*B.length then(if vT (aG B 0 8)then UK B most (0+8) (aG B 0 8) e out used else e=4/\out=[]/\used=0)else e=3/\out=[]/\used=0
def ac5 (B:aD)(q:Nat)(o:aD):∃e out used,I7 B q o e out used:=by
 unfold I7;by_cases a:q+32<=8*B.length
 ·by_cases b:jB B q 4=dZ 1 o
  ·exact⟨0,o,q/8+4,rfl,by rw[aA a,aA b];exact⟨rfl,rfl⟩⟩
  ·exact⟨12,o,0,rfl,by rw[aA a,aB b];exact⟨rfl,rfl⟩⟩
 ·exact⟨3,o,0,rfl,by rw[aB a];exact⟨rfl,rfl⟩⟩
def ac0 (B:aD)(most p:Nat)(hp:p<=8*B.length):∃e out used,Gd B most p e out used:=by
 obtain⟨n,a,o1,b,c⟩:=O9 B (xS B (qJ most p)+1) (qJ most p) (by simpa[qJ]using hp) (by omega);by_cases h:a=0
 ·obtain⟨e,out,used,d⟩:=ac5 B b o1;exact⟨e,out,used,n,a,o1,b,c,by rw[aA h];exact d⟩
 ·exact⟨a,o1,0,n,a,o1,b,c,by rw[aB h];exact⟨rfl,rfl,rfl⟩⟩
def ak2 (B:aD)(most:Nat):∃e out used,xO B most e out used:=by
 unfold xO;by_cases b:0+8<=8*B.length
 ·simp only[aA b];by_cases c:vT (aG B 0 8)
  ·simp only[aA c,UK];by_cases a:0+8+8<=8*B.length
   ·simp only[aA a];by_cases d:zC (aG B 0 8) (aG B (0+8) 8)
    ·simp only[aA d];exact ac0 B most _ a
    ·simp only[aB d];exact⟨4,[],0,rfl,rfl,rfl⟩
   ·simp only[aB a];exact⟨3,[],0,rfl,rfl,rfl⟩
  ·simp only[aB c];exact⟨4,[],0,rfl,rfl,rfl⟩
 ·simp only[aB b];exact⟨3,[],0,rfl,rfl,rfl⟩
def OP {p n:Nat}{q:Nat}(h:eZ B n (qJ most p) e out q):iR out/\q%8=0/\out.length<=most:=by obtain⟨a,b⟩:=h.bytes (by intro y c;simp[qJ,rQ]at c) (by simp[qJ,rQ]);exact⟨a,b,h.most (by simp[qJ,rQ])⟩
abbrev gQ (w:aH)(D f d:Nat)(parts out:aK)(nm:bY):Prop:=w.heap[D]? =some (.cells #[E f,E d,parts,out, .string nm] 96 (0,0))
abbrev bN (w:aH)(f:Nat)(s:aK)(p z:Nat):Prop:=w.heap[f]? =some (.cells #[s,V (p:Nat),V (z:Nat)] 91 (0,0))
def tX (P i n:Nat):aK:= .slice (some (U P i)) n n
def uJ (P i n:Nat):aK:=if n=0 then .slice (some (U P i)) 0 0 else .slice (some ⟨P,i+1,none⟩) n n
structure Zy (D f d P i n:Nat)(s:aK)(z:Nat)(S:Nat->Prop)(Q:Bool->Nat->aH->Prop)(L:aH->Prop)(w:aH)(r:Ending)(w':aH):Prop where
 step:Step S w w'
 feed:∃q:Nat,bN w' f s q z
 dec:∃vo nm,gQ w' D f d (tX P i (n+1)) vo nm
 out:(∃(thr:Bool) (e:Nat),r= .returned (.tuple #[.bool thr,V (e:Nat)])/\Q thr e w')\/(r=lost/\L w')
structure PZ (D f d P i n:Nat)(s:aK)(z:Nat)(S:Nat->Prop)(Q:Bool->Nat->aH->Prop)(L:aH->Prop)(w:aH)(r:Ending)(w2:aH):Prop where
 ex:∃w' vo nm,Step S w w'/\(∃q:Nat,bN w' f s q z)/\gQ w' D f d (tX P i (n+1)) vo nm/\
  ((∃(thr:Bool) (e:Nat),r= .returned (V (e:Nat))/\Q thr e w'/\w2=if thr then w'.setCell (U D 2) (uJ P i n)else w')\/(r=lost/\L w'/\w2=w'))
def UZ (D f d P i n m:Nat)(a b:Array aK)(s J:aK)(z:Nat)(nm:bY)(S:Nat->Prop)(Q:Bool->Nat->aH->Prop)(L:aH->Prop)(w:aH)(A:∀w,(callFunc m (a++b)).run prog w= .ok (.enter m (a++b)) w)(x:gQ w D f d (tX P i (n+1)) J nm)(hP:w.cell? (U P i)=some (.func (.func m) a b))(hn:n<=100)(y:Calls prog m (a++b) w fun r w'=>Zy D f d P i n s z S Q L w r w'):Calls prog 124 #[E D] w fun r w2=>PZ D f d P i n s z S Q L w r w2:=by
 have k2:w.cell? (U D 2)=some (.slice (some (U P i)) (n+1) (n+1)):=aC x 2 _ rfl;go_enter func124,ntmps124;go_wp2_with fail;apply y.mono;rintro r w' ⟨q,t,⟨k,j,l⟩,⟨thr,e,rfl,G⟩|⟨rfl,C⟩⟩
 ·have I:w'.cell? (U D 2)=some (.slice (some (U P i)) (n+1) (n+1)):=aC l 2 _ rfl;have K:w'.frozen? (U D 2)=false:=aJ l 2;have c:=hide (show∀w2,w2=(if thr then w'.setCell (U D 2) (uJ P i n)else w')->PZ D f d P i n s z S Q L w (.returned (V e)) w2 from fun w2 H=>⟨⟨w',k,j,q,t,l, .inl ⟨thr,e,rfl,G,H⟩⟩⟩);cases thr with
  |false=>
   go_wp2_with fail;go_ret;exact c.o _ rfl
  |true=>
   by_cases p:n=0
   ·subst p;go_wp2_with fail;go_ret;exact c.o _ rfl
   ·have F:(1:Int)<=(n:Int)+1:=(by omega);have u:=hide (show uJ P i n= .slice (some ⟨P,i+1,none⟩) n n by unfold uJ;rw[aB p]);have g:=hide (c.o _ rfl);rw[aA rfl,u.o]at g;go_wp2_with fail;go_ret;exact g.o
 ·have c:=hide (show PZ D f d P i n s z S Q L w lost w' from⟨⟨w',k,j,q,t,l, .inr ⟨rfl,C,rfl⟩⟩⟩);go_wp2_with fail;exact⟨rfl,c.o⟩
structure Qe (D f d P i n p:Nat)(s:aK)(z:Nat)(S:Nat->Prop)(Q:Bool->Nat->aH->Prop)(L:aH->Prop)(w:aH)(r:Ending)(w2:aH):Prop where
  ex:∃w1 w' vo nm,O w w1/\w1.heap.size=w.heap.size+3/\Step S w1 w'/\gQ w' D f d (tX P i (n+1)) vo nm/\
    ((∃(thr:Bool) (e:Nat),r= .returned (V (e:Nat))/\Q thr e w'/\gQ w2 D f d (if thr then uJ P i n else tX P i (n+1)) vo nm/\Step (fun k=>k=D\/k=w.heap.size+1) w' w2)\/
     (r= .returned (V 3)/\L w'/\gQ w2 D f d (tX P i (n+1)) vo nm/\bN w2 f s p z/\Step (fun k=>k=f\/k=w.heap.size+1) w' w2))
def Fu (D f d P i n p J:Nat)(a b:Array aK)(s Z:aK)(z:Nat)(nm:bY)(S:Nat->Prop)(Q:Bool->Nat->aH->Prop)(L:aH->Prop)(w:aH)(K:∀w,(callFunc J (a++b)).run prog w= .ok (.enter J (a++b)) w)(W:gQ w D f d (tX P i (n+1)) Z nm)(hP:w.cell? (U P i)=some (.func (.func J) a b))(hn:n<=100)(Y:bN w f s p z)(hS:∀k,S k->k<w.heap.size)(R:f≠D)(hc:∀w1,O w w1->w1.heap.size=w.heap.size+3->Calls prog J (a++b) w1 fun r w'=>Zy D f d P i n s z S Q L w1 r w'):Calls prog 125 #[E f, .func (.func 124) #[E D] #[]] w fun r w2=>Qe D f d P i n p s z S Q L w r w2:=by
 have aa:=aO W;have ab:=aO Y;refine(SV (z:=z) f D p s w (fun w1 r w2=>PZ D f d P i n s z S Q L w1 r w2) Y ?_ ?_).mono ?_
 ·intro w1 hs j ac;apply(UZ D f d P i n J a b s Z z nm S Q L w1 K (hs.at_ W (fun x=>x)) (hs.cell hP (fun x=>x)) hn (hc w1 hs j)).mono;intro r w2 h;obtain⟨w',m,l,o,C,t,⟨thr,e,rfl,_⟩|⟨rfl,_⟩⟩:=h.ex
  ·exact⟨.inl ⟨e,rfl⟩,h⟩
  ·exact⟨.inr rfl,h⟩
 ·intro w1 r w2 hs j h;obtain⟨w',m,l,o,⟨q,C⟩,t,F⟩:=h.ex;have u:Step (fun k=>S k\/k=D) w1 w2:=by
   rcases F with⟨thr,e,_,_,rfl⟩|⟨_,_,rfl⟩
   ·cases thr with
    |true=>exact(o.mono (fun k x=> .inl x)).setCell (p:=(U D 2)) (.inr rfl) _
    |false=>exact o.mono (fun k x=> .inl x)
   ·exact o.mono (fun k x=> .inl x)
  have c:∀k,w.heap.size<=k->¬(S k\/k=D):=fun k hk x=>by
   rcases x with x|x
   ·have:=hS k x;omega
   ·omega
  have M:bN w2 f s q z:=by
   rcases F with⟨thr,e,_,_,rfl⟩|⟨_,_,rfl⟩
   ·cases thr with
    |true=>exact((aU (·=D) w').setCell (p:=(U D 2)) rfl _).at_ C (fun x=>R x)
    |false=>exact C
   ·exact C
  exact⟨u.block _ (by omega) (c _ (by omega)),u.block _ (by omega) (c _ (by omega)),u.block _ (by omega) (c _ (by omega)),q,M⟩
 ·rintro r w2 ⟨w1,e1,w3,hs,j,h,H⟩;obtain⟨w',m,l,o,⟨q,C⟩,t,F⟩:=h.ex;have X:D<w.heap.size+1:=by omega
  rcases H with⟨y,A,rfl,rfl⟩|⟨A,rfl,I,N⟩
  ·rcases F with⟨thr,e,G,hq,rfl⟩|⟨G,_⟩
   ·rw[G]at A;have T:e=y:=by
     simp only[Ending.returned.injEq,Value.int.injEq,true_and]at A;omega
    subst T;refine⟨⟨w1,w',m,l,hs,j,o,t, .inl ⟨thr,e,rfl,hq,?_,?_⟩⟩⟩
    ·have g:Step (·=w.heap.size+1) (if thr then w'.setCell (U D 2) (uJ P i n)else w') ((if thr then w'.setCell (U D 2) (uJ P i n)else w').setCell ⟨w.heap.size+1,0,none⟩ (V e)):=(aU (·=w.heap.size+1) _).setCell (p:=⟨w.heap.size+1,0,none⟩) rfl _;cases thr with
     |true=>
      have h9:=aV t 2 (uJ P i n);exact g.at_ (by simpa using h9) (by omega)
     |false=>exact g.at_ t (by omega)
    ·cases thr with
     |true=>exact((aU _ w').setCell (p:=(U D 2)) (.inl rfl) _).setCell (p:=⟨w.heap.size+1,0,none⟩) (.inr rfl) _
     |false=>exact(aU _ w').setCell (p:=⟨w.heap.size+1,0,none⟩) (.inr rfl) _
   ·rw[G]at A;cases A
  ·rcases F with⟨thr,e,G,_⟩|⟨_,hl,rfl⟩
   ·rw[G]at A;cases A
   ·exact⟨⟨w1,w3,m,l,hs,j,o,t, .inr ⟨rfl,hl,I.at_ t (fun x=>by rcases x with x|x<;>omega),N,I⟩⟩⟩
def Vw (D f:Nat)(b:Nat->aH->Prop)(d:Nat->aH->Prop)(p:Nat)(w:aH)(t:b p w)(g:∀k wr,b k wr->∃a n c,wr.cell? (U D 2)=some (.slice a n c)/\wr.cell? (U D 0)=some (E f)/\(n=0->d 0 wr)/\(n≠0->Calls prog 125 #[E f, .func (.func 124) #[E D] #[]] wr fun r w'=>∃e:Nat,r= .returned (V e)/\((e=0/\∃j,j<k/\b j w')\/(e≠0/\d e w')))):Calls prog 90 #[E D] w fun r w'=>∃e:Nat,r= .returned (V e)/\d e w':=by
 have z:=ar9;go_enter func90,ntmps90;go_wp2_with fail;go_loopg [4] p (fun k u wr=>b k wr);case atStart=>exact t
 case round=>
  obtain⟨a,n,c,k2,G,F,C⟩:=g gk wr hrel;by_cases hn:n=0
  ·have q:=hide (F hn);subst hn;go_wp2_with fail;go_ret;exact⟨0,rfl,q.o⟩
  ·have A:(0:Int)<(n:Int):=(by omega);have s:=hide (C hn);go_wp2_with fail;apply s.o.mono;rintro r w1 ⟨e,rfl,⟨x,j,m,hi⟩|⟨x,y⟩⟩
   ·have l:((e:Int) !=0)=false:=(by rw[tY];omega);go_wp2_with fail;go_roundg j;case measure=>exact m
    case rel=>exact hi
   ·have l:((e:Int) !=0)=true:=(by rw[jP];omega);go_wp2_with fail;go_ret;exact⟨e,rfl,y⟩
def gU (r:Bool)(e:Nat)(w:aH):Calls prog 120 #[.bool r,V e] w fun x w'=>x= .returned (.tuple #[.bool true,V ((if r then 0 else e):Nat)])/\w'=w:=by
 cases r with
 |true=>
  go_enter func120,ntmps120;go_wp2_with fail;go_ret2;exact⟨rfl,rfl⟩
 |false=>
  go_enter func120,ntmps120;go_wp2_with fail;go_ret2;exact⟨rfl,rfl⟩
abbrev Ms (w:aH)(Z D first sum:Nat):Prop:=w.heap[Z]? =some (.cells #[E D,V (first:Nat), .int .u32 (sum:Nat)] 132 (0,0))
def jY (n p:Nat)(B:aD)(f:Nat)(s:aK)(z:Nat)(w:aH)(Q:Ending->aH->Prop)(r:Ending)(w':aH):Prop:=
 (p+n<=8*B.length/\bN w' f s (p+n) z/\Q r w')\/(8*B.length<p+n/\r=lost/\bN w' f s (8*B.length) z/\Step (·=f) w w')
def Ir (Z D f d g off cap z p j s:Nat)(B:aD)(parts Y:aK)(nm:bY)(w:aH)(L:Ms w Z D j s)(R:gQ w D f d parts Y nm)(t:bN w f (.slice (bE g off B.length) B.length cap) p z)(K:Go.dM.ay5 w g off B)(A:g≠f)(u:Z≠f)(hp:p<=8*B.length)(e:Nat)(S:e=if vT (aG B p 8)then 0 else 4):Calls prog 75 #[E Z] w (jY 8 p B f (.slice (bE g off B.length) B.length cap) z w fun r w'=>r= .returned (.tuple #[.bool true,V e])/\Ms w' Z D (aG B p 8) s/\Step (fun k=>k=f\/k=Z) w w'):=by
 have c0:w.cell? (U Z 0)=some (E D):=aC L 0 _ rfl;have d0:w.cell? (U D 0)=some (E f):=aC R 0 _ rfl;by_cases q:p+8<=8*B.length
 ·have W:=bO B p 8;have G:=hide (dO f g off cap z p 8 B w t K A (by omega) q);have m:=hide L;have N:=hide t;have H:=hide S;clear L R t K S;generalize aG B p 8=c at*;have hc:c<256:=W;go_enter func75,ntmps75;go_wp2_with fail;apply G.o.mono;rintro r w1 ⟨rfl,a⟩;have l:=a.step.at_ m.o u;have F:=aV l 1 (V c);have z1:w1.cell? (U Z 1)=some (V j):=aC l 1 _ rfl;have zf:w1.frozen? (U Z 1)=false:=aJ l 1;have C:Step (fun k=>k=f\/k=Z) w (w1.setCell (U Z 1) (V c)):=(a.step.mono (fun k x=> .inl x)).setCell (p:=(U Z 1)) (.inr rfl) _;have y:bN (w1.setCell (U Z 1) (V c)) f (.slice (bE g off B.length) B.length cap) (p+8) z:=((aU (·=Z) w1).setCell (p:=(U Z 1)) rfl _).at_ (a.feed _ _ _ _ N.o) (fun x=>u x.symm);have b:=hide (aQ F (aQ C y));clear l F C y a G m N
  have I:=hide (show∀r:Ending,r= .returned (.tuple #[.bool true,V e])->jY 8 p B f (.slice (bE g off B.length) B.length cap) z w (fun r w'=>r= .returned (.tuple #[.bool true,V e])/\Ms w' Z D c s/\Step (fun k=>k=f\/k=Z) w w') r (w1.setCell (U Z 1) (V c)) from
   fun r T=> .inl ⟨q,b.o.2.2,T,by simpa using b.o.1,b.o.2.1⟩)
  clear b q;by_cases n:c%16=8
  ·have M:(c:Int)%16=8:=(by omega);by_cases J:c/16<=7
   ·have X:(c:Int)/16<=7:=(by omega);have m:=hide (show vT c from⟨n,J⟩);clear n J;go_wp2_with fail;apply(gU true 4 _).mono;rintro r w2 ⟨rfl,rfl⟩;go_wp2_with fail;go_ret2;exact I.o _ (by rw[H.o,aA m.o];rfl)
   ·have X:decide ((c:Int)/16<=7)=false:=fT (by omega);have m:=hide (show¬vT c from fun h=>J h.2);go_wp2_with fail;apply(gU false 4 _).mono;rintro r w2 ⟨rfl,rfl⟩;go_wp2_with fail;go_ret2;exact I.o _ (by rw[H.o,aB m.o];rfl)
  ·have M:¬((c:Int)%16=8):=(by omega);have m:=hide (show¬vT c from fun h=>n h.1);go_wp2_with fail;apply(gU false 4 _).mono;rintro r w2 ⟨rfl,rfl⟩;go_wp2_with fail;go_ret2;exact I.o _ (by rw[H.o,aB m.o];rfl)
 ·have G:=hide (dL f g off cap z p 8 B w t K A (by omega) hp (by omega));go_enter func75,ntmps75;go_wp2_with fail;apply G.o.mono;rintro r w1 ⟨rfl,a⟩;have Q:=hide (show bN w1 f (.slice (bE g off B.length) B.length cap) (8*B.length) z/\Step (·=f) w w1 from⟨a.feed _ _ _ _ t,a.step⟩);go_wp2_with fail;exact⟨rfl, .inr ⟨by omega,rfl,Q.o.1,Q.o.2⟩⟩
def OU (a b:Nat)(c:a<4611686018427387904)(d:b<4611686018427387904):bits .and .i64 (a:Int) (b:Int)=((a&&&b:Nat):Int):=by have f:a&&&b<2^62:=IZ _ (by omega);show IntKind.i64.wrap ((BitVec.ofInt 64 (a:Int)&&&BitVec.ofInt 64 (b:Int)).toNat:Int)=_;rw[GI,j5 64 a (by omega),j5 64 b (by omega),dK];omega
def av8:∀a,a<256->a&&&32=a/32%2*32:=by decide +kernel
def Ay (Z D f d g off cap z p a t:Nat)(B:aD)(parts vo:aK)(nm:bY)(w:aH)(J:Ms w Z D a t)(Q:gQ w D f d parts vo nm)(u:bN w f (.slice (bE g off B.length) B.length cap) p z)(I:Go.dM.ay5 w g off B)(A:g≠f)(K:Z≠f)(hp:p<=8*B.length)(T:a<256)(e:Nat)(R:e=if zC a (aG B p 8)then 0 else 4):Calls prog 76 #[E Z] w (jY 8 p B f (.slice (bE g off B.length) B.length cap) z w fun r w'=>r= .returned (.tuple #[.bool true,V e])/\Ms w' Z D a t/\Step (fun k=>k=f\/k=Z) w w'):=by
 have c0:w.cell? (U Z 0)=some (E D):=aC J 0 _ rfl;have d0:w.cell? (U D 0)=some (E f):=aC Q 0 _ rfl;by_cases q:p+8<=8*B.length
 ·have X:=bO B p 8;have F:=hide (dO f g off cap z p 8 B w u I A (by omega) q);have m:=hide J;have M:=hide u;have G:=hide R;clear J Q u I R;generalize aG B p 8=c at*;have S:c<256:=X;have L:=OU c 32 (by omega) (by omega);rw[av8 c S]at L;have y:bits .and .i64 (c:Int) 32=((c/32%2*32:Nat):Int):=L;go_enter func76,ntmps76;go_wp2_with fail;apply F.o.mono;rintro r w1 ⟨rfl,b⟩;have s:=b.step.at_ m.o K;have z1:w1.cell? (U Z 1)=some (V a):=aC s 1 _ rfl
  have H:=hide (show∀r:Ending,r= .returned (.tuple #[.bool true,V e])->jY 8 p B f (.slice (bE g off B.length) B.length cap) z w (fun r w'=>r= .returned (.tuple #[.bool true,V e])/\Ms w' Z D a t/\Step (fun k=>k=f\/k=Z) w w') r w1 from
   fun r W=> .inl ⟨q,b.feed _ _ _ _ M.o,W,s,b.step.mono (fun k x=> .inl x)⟩)
  clear s b F m M q L;by_cases j:c/32%2=0
  ·have l:((c/32%2*32:Nat):Int)=0:=(by rw[j];rfl);rw[l]at y;by_cases n:(256*a+c)%31=0
   ·have C:(256*(a:Int)+(c:Int))%31=0:=(by omega);have m:=hide (show zC a c from⟨j,n⟩);clear j n l;go_wp2_with fail;apply(gU true 4 _).mono;rintro r w2 ⟨rfl,rfl⟩;go_wp2_with fail;go_ret2;exact H.o _ (by rw[G.o,aA m.o];rfl)
   ·have C:¬((256*(a:Int)+(c:Int))%31=0):=(by omega);have Y:((256*(a:Int)+(c:Int))%31==0)=false:=aX.2 C;have m:=hide (show¬zC a c from fun h=>n h.2);go_wp2_with fail;apply(gU false 4 _).mono;rintro r w2 ⟨rfl,rfl⟩;go_wp2_with fail;go_ret2;exact H.o _ (by rw[G.o,aB m.o];rfl)
  ·have l:((c/32%2*32:Nat):Int)=32:=(by rw[show c/32%2=1 by omega];rfl);rw[l]at y;have m:=hide (show¬zC a c from fun h=>j h.1);go_wp2_with fail;apply(gU false 4 _).mono;rintro r w2 ⟨rfl,rfl⟩;go_wp2_with fail;go_ret2;exact H.o _ (by rw[G.o,aB m.o];rfl)
 ·have F:=hide (dL f g off cap z p 8 B w u I A (by omega) hp (by omega));go_enter func76,ntmps76;go_wp2_with fail;apply F.o.mono;rintro r w1 ⟨rfl,b⟩;have N:=hide (show bN w1 f (.slice (bE g off B.length) B.length cap) (8*B.length) z/\Step (·=f) w w1 from⟨b.feed _ _ _ _ u,b.step⟩);go_wp2_with fail;exact⟨rfl, .inr ⟨by omega,rfl,N.o.1,N.o.2⟩⟩
def VG (D d f base g off cap z n e:Nat)(parts:aK)(nm:bY)(B:aD)(s:GS)(out:aD)(q:Nat)(v:aK)(w:aH)(A:gQ w D f d parts (.slice none 0 0) nm)(l:tK d f v D)(C:D<base)(F:g≠D)(J:dJ w d f base g off cap z B s v)(L:eZ B n s e out q):Calls prog 50 #[E D] w fun r w'=>r= .returned (.tuple #[.bool (e==0),V e])/\∃a,gQ w' D f d parts a nm/\V6 d f base g off cap z e B out q v (·=D) w w'/\Taken w' w.heap.size a (out.drop s.taken):=by
 have k1:=(show w.cell? (U D 1)=some (E d) from aC A 1 _ rfl)
 have t:=Dn d f base g off cap z n e B s out q v w J L;have I:=aO A;go_enter func50,ntmps50;go_wp2_with fail;apply t.mono;rintro r w1 ⟨a,rfl,m,u⟩;obtain⟨N,Q,y⟩:=u.slice;have c:gQ w1 D f d parts (.slice none 0 0) nm:=by
  obtain⟨st,q',R,S,T,G,W⟩:=m.ex;exact G.at_ A (fun x=>x.elim id l.not)
 have b:=hide (show∀k,gQ ((w1.setCell (U D 3) a).drewN k) D f d parts a nm/\V6 d f base g off cap z e B out q v (·=D) w ((w1.setCell (U D 3) a).drewN k)/\Taken ((w1.setCell (U D 3) a).drewN k) w.heap.size a (out.drop s.taken) from fun k=>⟨by
  have H:=aV c 3 a;simpa[World.drewN]using H,(m.widen (fun _ x=>x.elim)).set l C F 3 k a,u.step (((aU (·=D) w1).setCell (p:=(U D 3)) rfl a).drewN k) (fun j X x=>by omega)⟩)
 rw[y];rw[y]at b;generalize(out.drop s.taken).length=no at*;have Y:=(show w1.cell? (U D 3)=some (.slice none 0 0) from aC c 3 _ rfl)
 have M:=(show w1.frozen? (U D 3)=false from aJ c 3)
 have K:((e:Int)==0)=(e==0):=by
  by_cases h:e=0
  ·subst h;rfl
  ·rw[aX.2 (show(e:Int)≠0 by omega),aX.2 h]
 go_wp2_with fail;go_ret2;have h:=b.o 0;rw[DN]at h;exact⟨rfl,_,h⟩
def Taken.ad1 (h:Taken w base v ys):tZ w v ys:=by
 have c:=h;obtain⟨_,⟨a,hn⟩|⟨g,cap,_,a,_⟩⟩:=h
 ·exact .inl ⟨none,0,a,kP hn⟩
 ·refine .inr ⟨g,0,cap,a,fun i hi=> ?_⟩;have b:w.ownsRow base 5 1 v ys.length (jR ys):=c;rw[a]at b;rw[dS,b.cellAt i (by omega),qM _ _ hi]
def aa9 (Z D f d g off cap z p m b:Nat)(B:aD)(parts vo:aK)(nm:bY)(w:aH)(Q:Ms w Z D m b)(M:gQ w D f d parts vo nm)(N:bN w f (.slice (bE g off B.length) B.length cap) p z)(G:Go.dM.ay5 w g off B)(n:g≠f)(y:Z≠f)(u:D≠f)(hp:p<=8*B.length)(e:Nat)(I:e=if jB B p 4=b then 0 else 12):Calls prog 78 #[E Z] w (jY 32 p B f (.slice (bE g off B.length) B.length cap) z w fun r w'=>r= .returned (.tuple #[.bool true,V e])/\Step (·=f) w w'):=by
 have C:=G.much;go_enter func78,ntmps78;go_wp2_with fail;go_loopg [4,5] 4 (fun k u4 u5 wr=>∃i:Nat,u5=V i/\k+i=4/\u4= .int .u32 (jB B p i:Nat)/\p+8*i<=8*B.length/\bN wr f (.slice (bE g off B.length) B.length cap) (p+8*i) z/\Step (·=f) w wr);case atStart=>exact⟨0,rfl,by omega,rfl,by omega,N,aU _ _⟩
 case round=>
  obtain⟨i,rfl,hk,rfl,q,j,a⟩:=hrel;have K:=a.at_ Q y;have S:=a.at_ M u;have c0:wr.cell? (U Z 0)=some (E D):=aC K 0 _ rfl;have c2:wr.cell? (U Z 2)=some (.int .u32 (b:Nat)):=aC K 2 _ rfl;have d0:wr.cell? (U D 0)=some (E f):=aC S 0 _ rfl;by_cases hi:i=4
  ·subst hi;have H:=Fj B p 4;have l:=hide (show∀r:Ending,r= .returned (.tuple #[.bool true,V e])->jY 32 p B f (.slice (bE g off B.length) B.length cap) z w (fun r w'=>r= .returned (.tuple #[.bool true,V e])/\Step (·=f) w w') r wr from fun r X=> .inl ⟨q,j,X,a⟩);generalize jB B p 4=T at*;have hT:T<4294967296:=H;by_cases J:T=b
   ·have F:((T:Int)==(b:Int))=true:=(by rw[dI];omega);go_wp2_with fail;apply(gU true 12 _).mono;rintro r w2 ⟨rfl,rfl⟩;go_wp2_with fail;go_ret2;exact l.o _ (by rw[I,aA J];rfl)
   ·have F:((T:Int)==(b:Int))=false:=(by rw[aX];omega);go_wp2_with fail;apply(gU false 12 _).mono;rintro r w2 ⟨rfl,rfl⟩;go_wp2_with fail;go_ret2;exact l.o _ (by rw[I,aB J];rfl)
  ·have W:(i:Int)<4:=(by omega);have s:=G.step a n;by_cases A:p+8*i+8<=8*B.length
   ·have t:=hide (dO f g off cap z (p+8*i) 8 B wr j s n (by omega) A);have Y:=bO B (p+8*i) 8;have L:=hide (show jB B p (i+1)=256*jB B p i+aG B (p+8*i) 8 from rfl);have H:=Fj B p i;have R:256*jB B p i<4294967296:=by
     have:256^i<=256^3:=gL (by omega) (by omega);omega
    generalize aG B (p+8*i) 8=x at*;generalize jB B p i=T at*;have aa:x<256:=Y;go_wp2_with fail;apply t.o.mono;rintro r w1 ⟨rfl,c⟩;have l:=hide (show bN w1 f (.slice (bE g off B.length) B.length cap) (p+8*(i+1)) z/\Step (·=f) w w1 from⟨by rw[Nat.mul_add,<-iV];exact c.feed _ _ _ _ j,a.trans c.step⟩);go_wp2_with fail;go_roundg (gk-1);case measure=>omega
    case rel=>exact⟨i+1,rfl,by omega,by rw[L.o];simp,by omega,l.o⟩
   ·have t:=hide (dL f g off cap z (p+8*i) 8 B wr j s n (by omega) q (by omega));go_wp2_with fail;apply t.o.mono;rintro r w1 ⟨rfl,c⟩;have l:=hide (show bN w1 f (.slice (bE g off B.length) B.length cap) (8*B.length) z/\Step (·=f) w w1 from⟨c.feed _ _ _ _ j,a.trans c.step⟩);go_wp2_with fail;exact⟨rfl, .inr ⟨by omega,rfl,l.o.1,l.o.2⟩⟩
def wD (Z:Nat):Nat->aK
 |0=> .func (.func 75) #[E Z] #[]
 |1=> .func (.func 76) #[E Z] #[]
 |2=> .func (.func 77) #[E Z] #[]
 |_=> .func (.func 78) #[E Z] #[]
def aa8 (args:Array aK)(w:aH):(callFunc 75 args).run prog w= .ok (.enter 75 args) w:=by kernel_rfl
def Vk (args:Array aK)(w:aH):(callFunc 76 args).run prog w= .ok (.enter 76 args) w:=by kernel_rfl
def ao3 (args:Array aK)(w:aH):(callFunc 77 args).run prog w= .ok (.enter 77 args) w:=by kernel_rfl
def ax0 (args:Array aK)(w:aH):(callFunc 78 args).run prog w= .ok (.enter 78 args) w:=by kernel_rfl
def AO (f most:Nat):Obj:= .cells #[E f, .slice none 0 0,V 0,V (most:Nat),V 0, .bool false,V 0, .map none,V 0, .map none,V 0, .pointer none] 128 (0,0)
def fD (P i np:Nat):aK:=if i<np then tX P i (np-i)else .slice (some ⟨P,np-1,none⟩) 0 0
def nU {np:Nat}(h:i<np):fD P i np=tX P i ((np-i-1)+1):=by unfold fD;rw[aA h,show np-i-1+1=np-i by omega]
def yQ {np:Nat}(h:i<np):uJ P i (np-i-1)=fD P (i+1) np:=by
 unfold fD uJ;by_cases a:i+1<np
 ·rw[aA a,aB (by omega)];unfold tX;rw[show np-(i+1)=np-i-1 by omega]
 ·rw[aB a,aA (by omega),show np-1=i by omega]
def Od {D f d n p:Nat}{s:aK}{z:Nat}{S:Nat->Prop}{Q:Bool->Nat->aH->Prop}{L:aH->Prop}{r:Ending}{w2:aH}(h:Qe D f d P i n p s z S Q L w r w2)(b:S f):Step (fun k=>k=D\/S k\/k=w.heap.size+1) w w2:=by
 obtain⟨w1,w',j,nm,c,_,g,_,⟨thr,e,_,_,_,a⟩|⟨_,_,_,_,a⟩⟩:=h.ex
 ·exact((c.mono (fun _ x=>x.elim)).trans (g.mono (fun k x=> .inr (.inl x)))).trans (a.mono (fun k x=>x.elim .inl (fun y=> .inr (.inr y))))
 ·exact((c.mono (fun _ x=>x.elim)).trans (g.mono (fun k x=> .inr (.inl x)))).trans (a.mono (fun k x=>x.elim (fun y=> .inr (.inl (y▸b))) (fun y=> .inr (.inr y))))
def kR {h t:Nat}{A:Array aK}(own:Taken w base v ys)(blk:w.heap[h]? =some (.cells A t (0,0)))(c:t≠5):v.ownBlock≠some h:=fun x=>by
 obtain⟨_,⟨a,_⟩|⟨g,cap,b,a,_,hh,_⟩⟩:=own
 ·rw[a]at x;cases x
 ·rw[a]at x
  cases x
  rw[hh]at blk
  cases blk
  exact c rfl
def fJ {S:Nat->Prop}{w':aH}(h:Taken w base v ys)(hs:Step S w w')(hn:∀k,v.ownBlock=some k->¬S k):Taken w' base v ys:=bX h fun k hk=>hs.block k (h.lt k hk).2 (hn k hk)
def as2 (B:aD)(most i p first sum:Nat)(o:aD)(e:Nat)(out:aD)(used:Nat):Prop:=
 match i with
 |0=>p=0/\xO B most e out used
 |1=>first<256/\UK B most p first e out used
 |2=>Gd B most p e out used
 |3=>sum=dZ 1 o/\p%8=0/\I7 B p o e out used
 |_=>e=0/\p=8*used/\o=out
abbrev ZW (f D:Nat)(w:aH)(Q:Ending->aH->Prop):Prop:=Calls prog 125 #[E f, .func (.func 124) #[E D] #[]] w Q
def Bp {D f d:Nat}{p g b:aK}{n a:bY}(h:gQ w D f d p v n)(c:gQ w D f d g b a):v=b/\n=a:=by have e:=h.symm.trans c;simp only[fH,uK,Array.mk.injEq,sN,Value.string.injEq,jX,true_and]at e;exact⟨e.2.1,e.2.2⟩
def Z4 (D:Nat)(w:aH):Calls prog 51 #[E D] w fun e w'=>e= .returned (.slice (some ⟨w.heap.size+1,0,none⟩) 4 4)/\w'=(w.alloc (.cells #[E D,V 0, .int .u32 1] 132)).alloc (.cells #[wD w.heap.size 0,wD w.heap.size 1,wD w.heap.size 2,wD w.heap.size 3] 138):=by have a:=ar9;go_enter func51,ntmps51;go_wp2_with fail;go_ret;exact⟨rfl,rfl⟩
structure ap7 (w w':aH)(f most np:Nat)(X:Obj)(F:Nat->aK)(P:Nat):Prop where
 step:O w w'
 size:w'.heap.size=P+1
 lt:w.heap.size+2<P
 dec:w'.heap[w.heap.size]? =some (AO f most)
 wrap:gQ w' (w.heap.size+1) f w.heap.size (fD P 0 np) (.slice none 0 0) ⟨#[]⟩
 kept:w'.heap[w.heap.size+2]? =some X
 parts:∀j,j<np->w'.cell? (U P j)=some (F j)
def Yn (f most:Nat)(w:aH):Calls prog 36 #[V 1,E f,V most] w fun e w'=>e= .returned (.tuple #[.pointer (some ⟨w.heap.size+1,0,none⟩),V 0])/\ap7 w w' f most 4 (.cells #[.pointer (some ⟨w.heap.size+1,0,none⟩),V 0, .int .u32 1] 132 (0,0)) (wD (w.heap.size+2)) (w.heap.size+3):=by
 go_enter func36,ntmps36;go_wp2_with fail;apply(O6 f most _).mono;rintro e w1 ⟨rfl,n⟩;obtain⟨d,C⟩:=aP w.heap.size;have A:w1.heap.size=d+1:=by rw[n,C];simp
 have z:O w w1:=by rw[n];exact(aU _ _).alloc _
 have y:w1.heap[d]? =some (AO f most):=by rw[n,C];exact aR _ _
 have H:d<=w.heap.size:=by omega
 have G:w.heap.size<=d:=by omega
 rw[<-C];clear n C;go_wp2_with fail;obtain⟨w2,c⟩:=aP (w1.alloc (.cells #[E f,E d, .slice none 0 0, .slice none 0 0, .string ⟨#[]⟩] 96));have q:w2.heap.size=d+1+1:=by rw[c];simp[A]
 have r:O w1 w2:=by rw[c];exact(aU _ _).alloc _
 have t:gQ w2 (d+1) f d (.slice none 0 0) (.slice none 0 0) ⟨#[]⟩:=by rw[c,<-A];exact aR _ _
 rw[<-c];clear c;apply(Z4 (d+1) w2).mono;rintro e w3 ⟨rfl,a⟩;rw[q]at a|-
 have D:w3.heap.size=d+3+1:=by rw[a];simp[q]
 have l:O w2 w3:=by rw[a];exact((aU _ _).alloc _).alloc _
 have u:w3.heap[d+2]? =some (.cells #[.pointer (some ⟨d+1,0,none⟩),V 0, .int .u32 1] 132 (0,0)):=by
  rw[a,show d+2=w2.heap.size from q.symm];exact(dG _ _ _ (by simp)).trans (aR _ _)
 have b:w3.heap[d+3]? =some (.cells #[wD (d+2) 0,wD (d+2) 1,wD (d+2) 2,wD (d+2) 3] 138 (0,0)):=by
  rw[a,show d+3=(w2.alloc (.cells #[.pointer (some ⟨d+1,0,none⟩),V 0, .int .u32 1] 132)).heap.size by simp[q]];exact aR _ _
 clear a;have g:=l.at_ t (fun x=>x);have k2:w3.cell? ⟨d+1,2,none⟩=some (.slice none 0 0):=aC g 2 _ rfl;have J:w3.frozen? ⟨d+1,2,none⟩=false:=aJ g 2;have s:=hide (show ap7 w (w3.setCell ⟨d+1,2,none⟩ (.slice (some ⟨d+1+1+1,0,none⟩) 4 4)) f most 4 (.cells #[.pointer (some ⟨d+1,0,none⟩),V 0, .int .u32 1] 132 (0,0)) (wD (d+2)) (d+3) from by
  obtain rfl:d=w.heap.size:=by omega
  have m:Step (·=w.heap.size+1) w3 (w3.setCell ⟨w.heap.size+1,2,none⟩ (.slice (some ⟨w.heap.size+1+1+1,0,none⟩) 4 4)):=(aU (·=w.heap.size+1) w3).setCell (p:=⟨w.heap.size+1,2,none⟩) rfl _;refine⟨((z.trans r).trans l).trans' m (fun k hk x=>by omega),by simp[D],by omega,m.at_ ((r.trans l).at_ y (fun x=>x)) (by omega),?_,m.at_ u (by omega),fun j I=> ?_⟩
  ·have F:=aV g 2 (.slice (some ⟨w.heap.size+1+1+1,0,none⟩) 4 4);simp at F;exact F
  ·refine m.cell ?_ (by show¬(w.heap.size+3=w.heap.size+1);omega);match j,I with
   |0,_=>exact aC b 0 _ rfl
   |1,_=>exact aC b 1 _ rfl
   |2,_=>exact aC b 2 _ rfl
   |3,_=>exact aC b 3 _ rfl)
 clear g u b z r l y t;go_wp2_with fail;go_ret2;obtain rfl:d=w.heap.size:=by omega
 exact⟨rfl,s.o⟩
def Wv {used:Nat}(h:xO B most e out used):(e≠0->used=0)/\(e=0->∃q n o,used=q/8+4/\q+32<=8*B.length/\eZ B n (qJ most 16) 0 o q):=by
 unfold xO at h;by_cases f:0+8<=8*B.length
 ·rw[aA f]at h;by_cases g:vT (aG B 0 8)
  ·rw[aA g]at h;unfold UK at h;by_cases j:0+8+8<=8*B.length
   ·rw[aA j]at h;by_cases k:zC (aG B 0 8) (aG B (0+8) 8)
    ·rw[aA k]at h;obtain⟨n,m,o1,d,p,a⟩:=h;by_cases b:m=0
     ·subst b;rw[aA rfl]at a;obtain⟨_,a⟩:=a;by_cases c:d+32<=8*B.length
      ·rw[aA c]at a;by_cases l:jB B d 4=dZ 1 o1
       ·rw[aA l]at a;exact⟨fun x=>absurd a.1 x,fun _=>⟨d,n,o1,a.2,c,p⟩⟩
       ·rw[aB l]at a;exact⟨fun _=>a.2,fun x=>by omega⟩
      ·rw[aB c]at a;exact⟨fun _=>a.2,fun x=>by omega⟩
     ·rw[aB b]at a;exact⟨fun _=>a.2.2,fun x=>absurd (a.1.symm.trans x) b⟩
    ·rw[aB k]at h;exact⟨fun _=>h.2.2,fun x=>by omega⟩
   ·rw[aB j]at h;exact⟨fun _=>h.2.2,fun x=>by omega⟩
  ·rw[aB g]at h;exact⟨fun _=>h.2.2,fun x=>by omega⟩
 ·rw[aB f]at h;exact⟨fun _=>h.2.2,fun x=>by omega⟩
def af6 {used:Nat}(h:xO B most e out used):out.length<=most:=by
 have b:∀o:aD,o=[]->o.length<=most:=fun o d=>by rw[d];exact iZ _
 unfold xO at h;split at h
 ·split at h
  ·unfold UK at h;split at h
   ·split at h
    ·obtain⟨n,g,o1,j,f,c⟩:=h;have a:=(OP f).2.2;split at c
     ·rw[c.1];exact a
     ·rw[c.2.1];exact a
    ·exact b _ h.2.1
   ·exact b _ h.2.1
  ·exact b _ h.2.1
 ·exact b _ h.2.1
end Go.Proofs.YtbpahojchgpdnaaGreatDoor
