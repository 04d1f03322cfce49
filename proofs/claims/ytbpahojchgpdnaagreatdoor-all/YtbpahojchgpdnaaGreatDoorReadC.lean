import Derived.Test.YtbpahojchgpdnaaGreatDoorReadB
set_option linter.all false
namespace Go.Proofs.YtbpahojchgpdnaaGreatDoor
open Go.RowKit Go.dM Go.Maps Go.Proofs.Tryz
variable {w1:aH} {nb x:Nat} {thr:Bool}
variable {w0 w:aH} {n0 g off cap f d D X P:Nat} {F:Nat->aK} {B:aD} {most:Nat} {q:RQ} {lv vo v:aK}
def Bn {B:aD}(Y:aD):∀{n p:Nat},p+8*n<=8*B.length->jB (B++Y) p n=jB B p n:=by
 intro n;induction n with
 |zero=>intro p _;rfl
 |succ n ih=>
  intro p hp;rw[jB,jB,ih (by omega),gZ Y (by omega)]
def Ih (B:aD){z p:Nat}(h:8*z<=p):∀n,jB (B.drop z) (p-8*z) n=jB B p n:=by
 intro n;induction n with
 |zero=>rfl
 |succ n ih=>
  rw[jB,jB,ih,Dl,show p-8*z+8*n+8*z=p+8*n by omega]
def Xd (a:RS 1 w0 f d D X P F)(h:RM 1 w0 n0 w g off cap f d D X P B most q lv vo v)(b:q.ls=[])(i:O w w1){q':RQ}{s:aK}{l:aD}{r:Ending}{w':aH}(u:jY nb (q.p-8*q.z) l f s q.z w1 (fun r w'=>r= .returned (.tuple #[.bool thr,V (x:Nat)])/\Ms w' X D q'.fl q'.check/\Step (fun j=>j=f\/j=X) w1 w') r w')(o:q'.ls=q.ls)(t:q'.nm=q.nm):Gn 1 nb f d D X P s l w0.heap.size q q' thr x lv vo w1 r w':=by
 have c1:=a.f4;have c2:=a.fd;have c3:=a.dD;have c4:=a.DP;have H:=a.PN;obtain⟨I,J⟩:=a.XP (by omega);have c:=h.m.ag1 b;rcases u with⟨k1,k2,rfl,G,n⟩|C
 ·refine .inl ⟨k1,k2,rfl,lv,G,?_,fun j A=> .inl A,?_,fun _=>c,n.mono (fun j y=>y.elim .inl (fun z=> .inr (.inl z)))⟩
  ·rw[c,o,b];exact jJ _ _ _ _
  ·rw[t];exact n.at_ (i.at_ h.dec (fun x=>x)) (fun y=>by rcases y with y|y<;>omega)
 ·exact .inr C
def RV.z (l:RV 1 B most q)(c m j:Nat)(n:2<c->m%8=0)(hn:c<=2->q.pre=[]/\q.o=[])(hi:1<=c/\c<=4)(r:j<256):RV 1 B most { q with i:=c,p:=m,fl:=j,s:=qJ most m }:=by refine⟨l.bytes,l.len,l.ay8,fun e=>absurd e (by omega),n,fun y=>hn (by have y:c<2:=y;omega),hi.2,fun y=> ?_,fun _ _=>r,fun _ y=>by have y:c=0:=y;omega,fun e=>absurd e (by omega),fun e=>absurd e (by omega),l.k01,l.hh⟩;have y:c=2:=y;obtain⟨a,b⟩:=hn (by omega);exact⟨by show(0:Nat)≠3;omega,rfl,by show[]=q.pre++q.o;rw[a,b];rfl,rfl⟩
def RM.zin (b:RS 1 w0 f d D X P F)(h:RM 1 w0 n0 w g off cap f d D X P B most q lv vo v)(a:O w w1):Ms w1 X D q.fl q.check/\gQ w1 D f d (fD P q.i 4) vo (eP q.nm)/\bN w1 f (.slice (bE g off (B.drop q.z).length) (B.drop q.z).length cap) (q.p-8*q.z) q.z/\Go.dM.ay5 w1 g off (B.drop q.z)/\g≠f/\X≠f/\D≠f/\q.p-8*q.z<=8*(B.drop q.z).length:=by have c1:=b.f4;have c2:=b.fd;have c3:=b.dD;have c4:=b.DP;have j:=b.PN;obtain⟨l,n⟩:=b.XP (by omega);have hh:=h.m.here;have o:=h.m.zp;have c:(B.drop q.z).length=B.length-q.z:=dX;exact⟨a.at_ (show Ms w X D q.fl q.check from h.m.H9) (fun x=>x),a.at_ h.dec (fun x=>x),a.at_ h.m.feed (fun x=>x),h.m.src.step a (fun x=>x),by rcases h.m.AA with y|y<;>omega,by omega,by omega,by omega⟩
def rz0 (u:RS 1 w0 f d D X P F)(h:RM 1 w0 n0 w g off cap f d D X P B most q lv vo v)(C:q.i<bi 1->vo= .slice none 0 0)(t:RV 1 B most q)(hi:q.i=0):ZW f D w (pG 1 w0 n0 g off cap f d D X P B most q lv v w):=by
 have c:=u.kp;have c:∀j,j<4->F j=wD X j:=c;have b1:bi 1=2:=rfl;have n1:np 1=4:=rfl;have A:=(t.k01 (by omega)).1;obtain⟨hp,l⟩:=t.ag0 (by omega);have b:=t.p0 rfl hi;refine pO u h C t (by omega) (by omega) (q':={ q with i:=1,p:=q.p+8,fl:=aG B q.p 8,s:=qJ most (q.p+8) }) 8 75 #[E X] #[] (by rw[hi];exact c 0 (by omega)) (aa8 _) true (if vT (aG B q.p 8)then 0 else 4) (fun w1 o=> ?_) (by rw[hi];rfl) rfl rfl rfl rfl rfl (.inl rfl) (fun k1=> ?_) (fun k1=> ?_)
 ·obtain⟨a1,a2,H,I,J,K,M,L⟩:=h.zin u o;refine(Ir X D f d g off cap q.z (q.p-8*q.z) q.fl q.check (B.drop q.z) _ vo _ w1 a1 a2 H I J K L _ rfl).mono fun r w' G=> ?_;rw[gN B 8 h.m.zp]at G;exact Xd u h A o G rfl rfl
 ·by_cases a:vT (aG B q.p 8)
  ·rw[aA a];refine .inl ⟨rfl,t.z 1 (q.p+8) _ (fun y=>by omega) (fun _=>⟨hp,l⟩) ⟨by omega,by omega⟩ (bO B q.p 8),fun Y e out used name n=> ?_⟩;unfold dV at n|-
   rw[aB (show¬(1:Nat)=bi 1 by omega),aB (show¬(1:Nat)=0 by omega),aA rfl]at n;rw[aB (by omega),aB (by omega),aA rfl];obtain⟨⟨_,n⟩,hn⟩:=n;rw[hi];refine⟨⟨b,?_⟩,hn⟩;rw[b]at n a k1;unfold xO;rw[aA (by rw[aN];omega),gZ Y k1,aA a];exact n
  ·rw[aB a];refine .inr ⟨by omega,by omega,fun Y=> ?_⟩;unfold dV;rw[aB (by omega),aB (by omega),aA rfl,hi];refine⟨⟨b,?_⟩,rfl⟩;rw[b]at a k1;unfold xO;rw[aA (by rw[aN];omega),gZ Y k1,aB a,hp,l];exact⟨rfl,rfl,rfl⟩
 ·unfold dV;rw[aB (by omega),aB (by omega),aA rfl,hi];refine⟨⟨b,?_⟩,rfl⟩;rw[b]at k1;unfold xO;rw[aB (by omega),hp,l];exact⟨rfl,rfl,rfl⟩
def rz1 (G:RS 1 w0 f d D X P F)(h:RM 1 w0 n0 w g off cap f d D X P B most q lv vo v)(J:q.i<bi 1->vo= .slice none 0 0)(C:RV 1 B most q)(hi:q.i=1):ZW f D w (pG 1 w0 n0 g off cap f d D X P B most q lv v w):=by
 have l:=G.kp;have l:∀j,j<4->F j=wD X j:=l;have b1:bi 1=2:=rfl;have n1:np 1=4:=rfl;have I:=(C.k01 (by omega)).1;obtain⟨hp,o⟩:=C.ag0 (by omega);have b:=C.k1 rfl (by omega);refine pO G h J C (by omega) (by omega) (q':={ q with i:=2,p:=q.p+8,fl:=q.fl,s:=qJ most (q.p+8) }) 8 76 #[E X] #[] (by rw[hi];exact l 1 (by omega)) (Vk _) true (if zC q.fl (aG B q.p 8)then 0 else 4) (fun w1 A=> ?_) (by rw[hi];rfl) rfl rfl rfl rfl rfl (.inl rfl) (fun k1=> ?_) (fun k1=> ?_)
 ·obtain⟨a1,a2,L,M,N,Q,T,R⟩:=h.zin G A;refine(Ay X D f d g off cap q.z (q.p-8*q.z) q.fl q.check (B.drop q.z) _ vo _ w1 a1 a2 L M N Q R b _ rfl).mono fun r w' K=> ?_;rw[gN B 8 h.m.zp]at K;exact Xd G h I A K rfl rfl
 ·by_cases c:zC q.fl (aG B q.p 8)
  ·rw[aA c];refine .inl ⟨rfl,C.z 2 (q.p+8) _ (fun y=>by omega) (fun _=>⟨hp,o⟩) ⟨by omega,by omega⟩ b,fun Y e out used name a=> ?_⟩;unfold dV at a|-
   rw[aA (show(2:Nat)=bi 1 by omega)]at a;rw[aB (by omega),aB (by omega),aA rfl,hi];obtain⟨n,H,o1,S,u,a⟩:=a;unfold TL at a;refine⟨⟨b,?_⟩,?_⟩
   ·unfold UK;rw[aA (by rw[aN];omega),gZ Y k1,aA c];refine⟨n,H,o1,S,u,?_⟩;by_cases t:H=0
    ·rw[aA t]at a|-
     exact a.1
    ·rw[aB t]at a|-
     exact⟨a.1,a.2.1,a.2.2.1⟩
   ·by_cases t:H=0
    ·rw[aA t]at a;exact a.2
    ·rw[aB t]at a;exact a.2.2.2
  ·rw[aB c];refine .inr ⟨by omega,by omega,fun Y=> ?_⟩;unfold dV;rw[aB (by omega),aB (by omega),aA rfl,hi];refine⟨⟨b,?_⟩,rfl⟩;unfold UK;rw[aA (by rw[aN];omega),gZ Y k1,aB c,hp,o];exact⟨rfl,rfl,rfl⟩
 ·unfold dV;rw[aB (by omega),aB (by omega),aA rfl,hi];refine⟨⟨b,?_⟩,rfl⟩;unfold UK;rw[aB (by omega),hp,o];exact⟨rfl,rfl,rfl⟩
def rz3 (b:RS 1 w0 f d D X P F)(h:RM 1 w0 n0 w g off cap f d D X P B most q lv vo v)(n:RV 1 B most q)(hi:q.i=3):ZW f D w (pG 1 w0 n0 g off cap f d D X P B most q lv v w):=by
 have l:=b.kp;have l:∀j,j<4->F j=wD X j:=l;have b1:bi 1=2:=rfl;have n1:np 1=4:=rfl;have A:=(n.k01 (by omega)).1;have u:=n.k1 rfl (by omega);have t:=n.al8 (by omega);have a:=n.ay8 rfl;have c1:=b.f4;have c2:=b.fd;have c3:=b.dD;have c4:=b.DP;have T:=b.PN;obtain⟨W,Z⟩:=b.XP (by omega);refine pO b h (fun y=>by omega) n (by omega) (by omega) (q':={ q with i:=4,p:=q.p+32,fl:=q.fl,s:=qJ most (q.p+32) }) 32 78 #[E X] #[] (by rw[hi];exact l 3 (by omega)) (ax0 _) true (if jB B q.p 4=q.check then 0 else 12) (fun w1 o=> ?_) (by rw[hi];rfl) rfl rfl rfl rfl rfl (.inl rfl) (fun k1=> ?_) (fun k1=> ?_)
 ·obtain⟨a1,a2,J,K,L,M,N,Q⟩:=h.zin b o;refine(aa9 X D f d g off cap q.z (q.p-8*q.z) q.fl q.check (B.drop q.z) _ vo _ w1 a1 a2 J K L M N Q _ rfl).mono fun r w' G=> ?_;rw[Ih B h.m.zp]at G;refine Xd b h A o (q':={ q with i:=4,p:=q.p+32,fl:=q.fl,s:=qJ most (q.p+32) }) (thr:=true) (x:=if jB B q.p 4=q.check then 0 else 12) ?_ rfl rfl;rcases G with⟨k1,k2,rfl,I⟩|R
  ·exact .inl ⟨k1,k2,rfl,I.at_ a1 (by omega),I.mono (fun j y=> .inl y)⟩
  ·exact .inr R
 ·by_cases c:jB B q.p 4=q.check
  ·rw[aA c];refine .inl ⟨rfl,n.z 4 (q.p+32) _ (fun y=>by omega) (fun y=>by omega) ⟨by omega,by omega⟩ u,fun Y e out used name C=> ?_⟩;unfold dV at C|-
   rw[aB (show¬(4:Nat)=bi 1 by omega),aB (show¬(1:Nat)=0 by omega),aA rfl]at C;rw[aB (by omega),aB (by omega),aA rfl,hi];obtain⟨⟨rfl,H,S⟩,hn⟩:=C;have H:q.p+32=8*used:=H;refine⟨⟨a,t,S.symm,?_⟩,hn⟩;rw[aA (by rw[aN];omega),Bn Y (by omega),aA (by rw[c,a])];exact⟨rfl,by omega⟩
  ·rw[aB c];refine .inr ⟨by omega,by omega,fun Y=> ?_⟩;unfold dV;rw[aB (by omega),aB (by omega),aA rfl,hi];refine⟨⟨a,t,rfl,?_⟩,rfl⟩;rw[aA (by rw[aN];omega),Bn Y (by omega),aB (by rw[<-a];exact c)];exact⟨rfl,rfl⟩
 ·unfold dV;rw[aB (by omega),aB (by omega),aA rfl,hi];refine⟨⟨a,t,rfl,?_⟩,rfl⟩;rw[aB (by omega)];exact⟨rfl,rfl⟩
variable {w0 w:aH} {n0 g off cap f d D X P:Nat} {F:Nat->aK} {B:aD} {most:Nat} {q:RQ} {lv vo v:aK}
def RM.AA (b:RS 2 w0 f d D X P F)(h:RM 2 w0 n0 w g off cap f d D X P B most q lv vo v)(j:RV 2 B most q)(a:O w w1):Ik w1 X D f d g off cap q.z (q.p-8*q.z) q.fl q.left q.head lv q.check q.size (B.drop q.z) (fD P q.i 13) vo (eP q.nm):=by have c1:=b.f4;have c2:=b.fd;have c3:=b.dD;have c4:=b.DP;have l:=b.PN;obtain⟨n,o⟩:=b.XP (by omega);have hh:=h.m.here;have r:=h.m.zp;have c:(B.drop q.z).length=B.length-q.z:=dX;exact⟨a.at_ (show rP w X D q.fl q.left q.head lv q.check q.size from h.m.H9) (fun x=>x),a.at_ h.dec (fun x=>x),a.at_ h.m.feed (fun x=>x),h.m.src.step a (fun x=>x),by rcases h.m.AA with y|y<;>omega,by omega,by omega,by omega,by omega,j.hh⟩
def RM.box (c:RS 2 w0 f d D X P F)(h:RM 2 w0 n0 w g off cap f d D X P B most q lv vo v)(b:O w w1){a:Nat}{u:aK}(i:X<a/\a<w0.heap.size)(j:w0.cell? (U a 0)=some u):w1.cell? (U a 0)=some u:=by obtain⟨l,n⟩:=c.XP (by omega);exact b.cell ((vF (a:=(U a 0)) (h.m.old a (by omega) (by omega) i.2)).trans j) (fun x=>x)
def EH (a:RS 2 w0 f d D X P F)(h:RM 2 w0 n0 w g off cap f d D X P B most q lv vo v)(b:O w w1){q':RQ}{s:aK}{c:aD}{r:Ending}{w':aH}(o:rO nb (q.p-8*q.z) c f s q.z X D d q'.fl q'.left q'.head lv q'.check q'.size (fD P q.i 13) vo (eP q.nm) thr x (fun k=>k=f\/k=X) w1 r w')(j:q'.ls=q.ls)(n:q'.nm=q.nm):Gn 2 nb f d D X P s c w0.heap.size q q' thr x lv vo w1 r w':=by
 have c1:=a.f4;have c2:=a.fd;have c3:=a.dD;have c4:=a.DP;have C:=a.PN;obtain⟨G,H⟩:=a.XP (by omega);rcases o with⟨k1,k2,rfl,u,A,l⟩|t
 ·refine .inl ⟨k1,k2,rfl,lv,u,?_,fun k hk=> .inl hk,by rw[n];exact A,fun y=>h.m.ag1 (by rw[<-j];exact y),l.mono (fun k y=>y.elim .inl (fun z=> .inr (.inl z)))⟩;rw[j];exact kH (kH h.m.lets b (fun _ _ y=>y)) l (fun k hk y=>by
   have:=(h.m.lets.lt k hk).1;omega)
 ·exact .inr t
abbrev GP (w0 w:aH)(g off cap f d D X P:Nat)(F:Nat->aK)(B:aD)(q:RQ)(lv vo:aK)(nb:Nat)(q':RQ)(thr:Bool)(x id:Nat)(first caps:Array aK):Prop:=
 F q.i= .func (.func id) first caps/\∀w1,O w w1->Calls prog id (first++caps) w1 (Gn 2 nb f d D X P (.slice (bE g off (B.drop q.z).length) (B.drop q.z).length cap) (B.drop q.z) w0.heap.size q q' thr x lv vo w1)
abbrev UJ (w0 w:aH)(g off cap f d D X P:Nat)(B:aD)(q:RQ)(lv vo:aK)(nb:Nat)(q':RQ)(thr:Bool)(x id:Nat):Prop:=
 ∀w1,O w w1->Calls prog id #[E X] w1 (Gn 2 nb f d D X P (.slice (bE g off (B.drop q.z).length) (B.drop q.z).length cap) (B.drop q.z) w0.heap.size q q' thr x lv vo w1)
def ay0 (j:RS 2 w0 f d D X P F)(h:RM 2 w0 n0 w g off cap f d D X P B most q lv vo v)(H:RV 2 B most q){m:Nat}(G:IsMark w0 X m (F q.i)):∃n,GP w0 w g off cap f d D X P F B q lv vo 8 { q with i:=q.i+1,p:=q.p+8,head:=aL q.head [aG B q.p 8],s:=qJ most (q.p+8) } true (if aG B q.p 8=m then 0 else 4) 121 #[] n:=by obtain⟨a,b,y,A,C,t,u⟩:=G;have c1:=j.f4;have c2:=j.fd;have c3:=j.dD;have c4:=j.DP;have I:=j.PN;obtain⟨J,K⟩:=j.XP (by omega);refine⟨_,y,fun w1 l=> ?_⟩;have c:=h.AA j H l;apply(ac9 a b m X D f d g off cap q.z (q.p-8*q.z) q.fl q.left q.head q.check q.size lv (B.drop q.z) _ vo _ w1 c.gz c.dec c.feed c.src c.gf c.Xf c.Df c.DX c.here c.hh (h.box j l A t) (h.box j l C u) ⟨by omega,by omega⟩ _ rfl).mono;intro r w' o;simp only[gN B _ h.m.zp]at o;exact EH j h l o rfl rfl
def ap6 (b:RS 2 w0 f d D X P F)(h:RM 2 w0 n0 w g off cap f d D X P B most q lv vo v)(j:RV 2 B most q):UJ w0 w g off cap f d D X P B q lv vo 8 { q with i:=q.i+1,p:=q.p+8,fl:=aG B q.p 8,head:=aL q.head [aG B q.p 8],s:=qJ most (q.p+8) } true (if aG B q.p 8<32 then 0 else 4) 80:=fun w1 a=>
 (VX X D f d g off cap q.z _ q.fl q.left q.head q.check q.size lv _ _ vo _ w1 (h.AA b j a) _ rfl).mono fun _ _ c=>by
  simp only[gN B _ h.m.zp]at c
  exact EH b h a c rfl rfl
def a92 (b:RS 2 w0 f d D X P F)(h:RM 2 w0 n0 w g off cap f d D X P B most q lv vo v)(n:RV 2 B most q)(j:0<q.left)(l:q.left<1000000)(o:Nat):UJ w0 w g off cap f d D X P B q lv vo 8 { q with i:=o,p:=q.p+8,left:=q.left-1,head:=aL q.head [aG B q.p 8],s:=qJ most (q.p+8) } (q.left==1) 0 81:=fun w1 a=>
 (Xj X D f d g off cap q.z _ q.fl q.left q.head q.check q.size lv _ _ vo _ w1 (h.AA b n a) j l _ rfl).mono fun _ _ c=>by
  simp only[gN B _ h.m.zp]at c
  exact EH b h a c rfl rfl
def Qf (b:RS 2 w0 f d D X P F)(h:RM 2 w0 n0 w g off cap f d D X P B most q lv vo v)(l:RV 2 B most q)(j:q.left=0):UJ w0 w g off cap f d D X P B q lv vo 0 { q with i:=q.i+1,left:=0,s:=qJ most q.p } true 0 81:=fun w1 a=>
 (Rl X D f d g off cap q.z _ q.fl q.left q.head q.check q.size lv _ _ vo _ w1 (h.AA b l a) j).mono fun _ _ c=>EH b h a c rfl rfl
def ak3 (b:RS 2 w0 f d D X P F)(h:RM 2 w0 n0 w g off cap f d D X P B most q lv vo v)(j:RV 2 B most q):UJ w0 w g off cap f d D X P B q lv vo 16 { q with i:=q.i+1,p:=q.p+16,left:=aG B q.p 16,head:=aL q.head [aG B q.p 16%256,aG B q.p 16/256],s:=qJ most (q.p+16) } true 0 83:=fun w1 a=>
 (V3 X D f d g off cap q.z _ q.fl q.left q.head q.check q.size lv _ _ vo _ w1 (h.AA b j a)).mono fun _ _ c=>by
  simp only[gN B _ h.m.zp]at c
  exact EH b h a c rfl rfl
def aa3 (b:RS 2 w0 f d D X P F)(h:RM 2 w0 n0 w g off cap f d D X P B most q lv vo v)(j:RV 2 B most q)(l:Nat):UJ w0 w g off cap f d D X P B q lv vo 8 { q with i:=l,p:=q.p+8,head:=aL q.head [aG B q.p 8],s:=qJ most (q.p+8) } (aG B q.p 8==0) 0 85:=fun w1 a=>
 (Iq X D f d g off cap q.z _ q.fl q.left q.head q.check q.size lv _ _ vo _ w1 (h.AA b j a) _ rfl).mono fun _ _ c=>by
  simp only[gN B _ h.m.zp]at c
  exact EH b h a c rfl rfl
def Bo (b:RS 2 w0 f d D X P F)(h:RM 2 w0 n0 w g off cap f d D X P B most q lv vo v)(j:RV 2 B most q):UJ w0 w g off cap f d D X P B q lv vo 16 { q with i:=q.i+1,p:=q.p+16,s:=qJ most (q.p+16) } true (if aG B q.p 16=q.head%65536 then 0 else 12) 86:=fun w1 a=>
 (V8 X D f d g off cap q.z _ q.fl q.left q.head q.check q.size lv _ _ vo _ w1 (h.AA b j a) _ rfl).mono fun _ _ c=>by
  simp only[gN B _ h.m.zp]at c
  exact EH b h a c rfl rfl
def am1 (b:RS 2 w0 f d D X P F)(h:RM 2 w0 n0 w g off cap f d D X P B most q lv vo v)(j:RV 2 B most q):UJ w0 w g off cap f d D X P B q lv vo 32 { q with i:=q.i+1,p:=q.p+32,s:=qJ most (q.p+32) } true (if aG B q.p 32=q.check then 0 else 12) 88:=fun w1 a=>
 (UC X D f d g off cap q.z _ q.fl q.left q.head q.check q.size lv _ _ vo _ w1 (h.AA b j a) _ rfl).mono fun _ _ c=>by
  simp only[gN B _ h.m.zp]at c
  exact EH b h a c rfl rfl
def au4 (b:RS 2 w0 f d D X P F)(h:RM 2 w0 n0 w g off cap f d D X P B most q lv vo v)(j:RV 2 B most q):UJ w0 w g off cap f d D X P B q lv vo 32 { q with i:=q.i+1,p:=q.p+32,s:=qJ most (q.p+32) } true (if aG B q.p 32=q.size then 0 else 12) 89:=fun w1 a=>
 (VT X D f d g off cap q.z _ q.fl q.left q.head q.check q.size lv _ _ vo _ w1 (h.AA b j a) _ rfl).mono fun _ _ c=>by
  simp only[gN B _ h.m.zp]at c
  exact EH b h a c rfl rfl
def ae1 (i:RS 2 w0 f d D X P F)(h:RM 2 w0 n0 w g off cap f d D X P B most q lv vo v)(n:RV 2 B most q)(hn:aG B q.p 8≠0)(j:q.ls.length<=8388608):UJ w0 w g off cap f d D X P B q lv vo 8 { q with p:=q.p+8,head:=aL q.head [aG B q.p 8],ls:=q.ls++[aG B q.p 8],s:=qJ most (q.p+8) } false 0 84:=fun w1 a=>by
 have H:=h.m.big
 have o:=a.size
 refine(Cw X D f d g off cap q.z (q.p-8*q.z) q.fl q.left q.head q.check q.size w0.heap.size lv q.ls (B.drop q.z) _ vo _ w1 (h.AA i n a) (kH h.m.lets a (fun _ _ y=>y)) (by rw[gN B _ h.m.zp];exact hn) j (by omega)).mono ?_
 intro r w' c
 simp only[gN B _ h.m.zp]at c
 rcases c with⟨k1,k2,rfl,b,t,u,A,C,G⟩|l
 ·exact .inl ⟨k1,k2,rfl,b,t,u,A,C,fun y=>by simp at y,G.mono (fun k y=>by
   rcases y with y|y|y
   ·exact .inl y
   ·exact .inr (.inl y)
   ·exact .inr (.inr (.inr y)))⟩
 ·exact .inr l
def Ut (c:RS 2 w0 f d D X P F)(h:RM 2 w0 n0 w g off cap f d D X P B most q lv vo v)(n:RV 2 B most q)(hn:aG B q.p 8=0)(j:iR q.ls):UJ w0 w g off cap f d D X P B q lv vo 8 { q with i:=q.i+1,p:=q.p+8,head:=aL q.head [aG B q.p 8],ls:=[],nm:=gY q.ls,s:=qJ most (q.p+8) } true 0 84:=fun w1 a=>by
 refine(Iw X D f d g off cap q.z (q.p-8*q.z) q.fl q.left q.head q.check q.size w0.heap.size lv q.ls (B.drop q.z) _ vo _ w1 (h.AA c n a) (kH h.m.lets a (fun _ _ y=>y)) (by rw[gN B _ h.m.zp];exact hn) j).mono ?_
 intro r w' b
 simp only[gN B _ h.m.zp]at b
 rcases b with⟨k1,k2,rfl,o,t,u⟩|l
 ·exact .inl ⟨k1,k2,rfl, .slice none 0 0,o,jJ _ _ _ _,fun k hk=>(by simp[Value.ownBlock]at hk),t,fun _=>rfl,u.mono (fun k y=>by
   rcases y with y|y|y
   ·exact .inl y
   ·exact .inr (.inl y)
   ·exact .inr (.inr (.inl y)))⟩
 ·exact .inr l
def Xy (t:RS 2 w0 f d D X P F)(h:RM 2 w0 n0 w g off cap f d D X P B most q lv vo v)(J:RV 2 B most q){j L:Nat}(K:qY w0 X j L (F q.i))(I:bits .and .i64 (q.fl:Int) (j:Int)=0):∃n,GP w0 w g off cap f d D X P F B q lv vo 0 { q with i:=q.i+1,s:=qJ most q.p } true 0 123 #[] n:=by obtain⟨a,b,c,C,G,H,N,z,A,M⟩:=K;refine⟨_,C,fun w1 l=> ?_⟩;have u:=h.AA t J l;apply(ag5 a b c X D q.fl j q.left q.head q.check q.size lv w1 u.gz (h.box t l G z) (h.box t l H A) I).mono;rintro r w' ⟨rfl,o⟩;have m:=u.step0 o;exact EH t h l (.inl ⟨u.here,m.feed,rfl,m.gz,m.dec,o.mono (fun _ y=>y.elim)⟩) rfl rfl
def SH (p:RS 2 w0 f d D X P F)(h:RM 2 w0 n0 w g off cap f d D X P B most q lv vo v)(R:RV 2 B most q){j o:Nat}{q':RQ}(S:qY w0 X j o (F q.i))(Q:(bits .and .i64 (q.fl:Int) (j:Int)==0)=false)(t:∀w,(callFunc o #[E X]).run prog w= .ok (.enter o #[E X]) w)(N:UJ w0 w g off cap f d D X P B q lv vo nb q' thr x o):∃n,GP w0 w g off cap f d D X P F B q lv vo nb q' thr x 123 #[] n:=by
 obtain⟨a,b,c,K,L,M,s,G,H,I⟩:=S;refine⟨_,K,fun w1 l=> ?_⟩;have J:=h.AA p R l;refine Zm a b c X D q.fl j q.left q.head q.check q.size o lv w1 _ J.gz (h.box p l L G) (h.box p l M H) (h.box p l s I) Q t (fun w2 m=> ?_);apply(N w2 (l.trans m)).mono;intro r w' hp;have hz:=m.size;refine⟨?_,?_⟩
 ·rcases hp with⟨_,_,rfl,_⟩|⟨_,rfl,_⟩
  ·exact .inl ⟨_,_,rfl⟩
  ·exact .inr rfl
 ·rcases hp with⟨k1,k2,u,C,A,T,W,Y,Z,k9⟩|⟨k1,k2,u,A⟩
  ·exact .inl ⟨k1,k2,u,C,A,T,fun k hk=>(W k hk).imp (fun z=>z) (fun y=>by omega),Y,Z,(m.mono (fun _ y=>y.elim)).trans k9⟩
  ·exact .inr ⟨k1,k2,u,(m.mono (fun _ y=>y.elim)).trans A⟩
variable {w0 w:aH} {n0 g off cap f d D X P:Nat} {F:Nat->aK} {B:aD} {most:Nat} {q:RQ} {lv vo v:aK} {e:Nat} {out:aD} {used:Nat} {name:aD}
def sP (h:q.i≠10):dV 2 B most q e out used name=nS B most q.g e out used name:=by unfold dV;rw[aB (show¬q.i=bi 2 from h),aB (by omega),aB (by omega)]
def ZF (hi:q.i=0):dV 2 B most q e out used name=(q.p=0/\xA B most e out used name):=by rw[sP (by omega)];unfold nS;rw[show q.g.i=0 from hi];rfl
def a11 (hi:q.i=1):dV 2 B most q e out used name=(q.p=8/\gz1 B most e out used name):=by rw[sP (by omega)];unfold nS;rw[show q.g.i=1 from hi];rfl
def Yp (hi:q.i=2):dV 2 B most q e out used name=(q.p=16/\gz2 B most e out used name):=by rw[sP (by omega)];unfold nS;rw[show q.g.i=2 from hi];rfl
def ZJ (hi:q.i=3):dV 2 B most q e out used name=(q.p=24/\jU B most 24 e out used name):=by rw[sP (by omega)];unfold nS;rw[show q.g.i=3 from hi];rfl
def Q8 (hi:q.i=4):dV 2 B most q e out used name=qA B most q.fl q.p q.left e out used name:=by rw[sP (by omega)];unfold nS;rw[show q.g.i=4 from hi];rfl
def TR (hi:q.i=5):dV 2 B most q e out used name=kT B most q.fl q.p e out used name:=by rw[sP (by omega)];unfold nS;rw[show q.g.i=5 from hi];rfl
def FL (hi:q.i=6):dV 2 B most q e out used name=nV B most q.fl q.p q.left e out used name:=by rw[sP (by omega)];unfold nS;rw[show q.g.i=6 from hi];rfl
def CF (hi:q.i=7):dV 2 B most q e out used name=jW B most q.fl q.p q.ls e out used name:=by rw[sP (by omega)];unfold nS;rw[show q.g.i=7 from hi];rfl
def JZ (hi:q.i=8):dV 2 B most q e out used name=gX B most q.fl q.p q.nm e out used name:=by rw[sP (by omega)];unfold nS;rw[show q.g.i=8 from hi];rfl
def KP (hi:q.i=9):dV 2 B most q e out used name=jG B most q.fl q.p q.nm e out used name:=by rw[sP (by omega)];unfold nS;rw[show q.g.i=9 from hi];rfl
def Ov (hi:q.i=10)(hs:q.s=qJ most q.p)(h:dV 2 B most q e out used name):rY B most q.p q.nm e out used name:=by
 unfold dV at h;rw[aA (show q.i=bi 2 from hi)]at h;obtain⟨n,a,o1,j,c,h⟩:=h;rw[hs]at c;refine⟨n,a,o1,j,c,?_⟩;by_cases b:a=0
 ·rw[aA b]at h|-
  unfold TL at h;rw[aB (by omega),aB (by omega)]at h;exact h
 ·rw[aB b]at h|-
  exact h
def ZU (hi:q.i=11):dV 2 B most q e out used name=(q.check=aL 0 (q.pre++q.o)/\q.size=(q.pre++q.o).length/\q.p%8=0/\pF B q.p (q.pre++q.o) q.nm e out used name):=by rw[sP (by omega)];unfold nS;rw[show q.g.i=11 from hi];rfl
def P5 (hi:q.i=12):dV 2 B most q e out used name=(q.size=(q.pre++q.o).length/\q.p%8=0/\BZ B q.p (q.pre++q.o) q.nm e out used name):=by rw[sP (by omega)];unfold nS;rw[show q.g.i=12 from hi];rfl
def aq9 (hi:q.i=13):dV 2 B most q e out used name=(e=0/\q.p=8*used/\q.pre++q.o=out/\name=q.nm):=by rw[sP (by omega)];unfold nS;rw[show q.g.i=13 from hi];rfl
def RV.gg (z:RV 2 B most q)(l t m j c:Nat)(n r:aD)(A:10<l->t%8=0)(hn:l<=10->q.pre=[]/\q.o=[])(hi:l<=13)(u:l<=3->t=8*l)(C:GV B ⟨l,t,m,j,c,q.check,q.size,n,q.pre++q.o,r⟩)(hh:c<4294967296):RV 2 B most { q with i:=l,p:=t,fl:=m,left:=j,head:=c,ls:=n,nm:=r,s:=qJ most t }:=by refine⟨z.bytes,z.len,fun e=>absurd e (by omega),z.au7,A,fun y=>hn (by have y:l<10:=y;omega),hi,fun y=> ?_,fun e=>absurd e (by omega),fun e=>absurd e (by omega),fun _=>u,fun _=>C,fun e=>absurd rfl e,hh⟩;have y:l=10:=y;obtain⟨a,b⟩:=hn (by omega);exact⟨by show(0:Nat)≠3;omega,rfl,by show[]=q.pre++q.o;rw[a,b];rfl,rfl⟩
def jT {B Y:aD}{n:Nat}(h:n<=8*B.length):n<=8*(B++Y).length:=by rw[aN];omega
section head
variable (hS:RS 2 w0 f d D X P F) (h:RM 2 w0 n0 w g off cap f d D X P B most q lv vo v) (hvn:q.i<bi 2->vo= .slice none 0 0) (hv:RV 2 B most q) (hB:iR B)
include hS h hvn hv hB
def Jl (hi:q.i<3){m:Nat}(u:IsMark w0 X m (F q.i))(K:aD->Nat->aD->Nat->aD->Prop)(o:∀Z e out used name,dV 2 Z most q e out used name=mO Z m q.p (K Z) e out used name)(s:∀Z (q':RQ) e out used name,q'.i=q.i+1->q'.p=q.p+8->dV 2 Z most q' e out used name->K Z e out used name):ZW f D w (pG 2 w0 n0 g off cap f d D X P B most q lv v w):=by
 have b2:bi 2=10:=rfl;have n2:np 2=13:=rfl;obtain⟨hp,n⟩:=hv.ag0 (by omega);have j:=hv.k2 rfl;have b:q.nm=[]:=j.nm (by show q.i<=7;omega);obtain⟨a1,a2⟩:=j.al (by show q.i<=9;omega);have a1:q.p%8=0:=a1;have a2:q.head=aL 0 (B.take (q.p/8)):=a2;have z:=hv.p2 rfl (by omega);have a:q.ls=[]:=j.ls (by show q.i≠7;omega);obtain⟨l,r,t⟩:=ay0 hS h hv u;refine pO hS h hvn hv (by omega) (by omega) 8 _ #[] l r (aq8 _) true _ t rfl rfl rfl rfl rfl rfl (.inl rfl) (fun k=> ?_) (fun k=> ?_)
 ·by_cases hn:aG B q.p 8=m
  ·rw[aA hn];refine .inl ⟨rfl,hv.gg (q.i+1) (q.p+8) q.fl q.left _ q.ls q.nm (fun y=>by omega) (fun _=>⟨hp,n⟩) (by omega) (fun _=>by omega) ⟨fun _=>⟨by show(q.p+8)%8=0;omega,?_⟩,fun y=>by have y:4<=q.i+1:=y;omega,j.lf,fun _=>a,j.lb,by show 8*q.ls.length<=q.p+8;rw[a];simp,fun _=>b,fun _=>j.l6 (by show q.i<=3;omega),fun _=>a⟩ (iW _ _),fun Y e out used name c=> ?_⟩
   ·show aL q.head [aG B q.p 8]=aL 0 (B.take ((q.p+8)/8));rw[a2];exact xR B q.p hB a1 k
   ·rw[o];unfold mO;rw[aA (jT k),gZ Y k,aA hn];exact s _ _ _ _ _ _ rfl rfl c
  ·rw[aB hn];refine .inr ⟨by omega,by omega,fun Y=> ?_⟩;rw[o];unfold mO;rw[aA (jT k),gZ Y k,aB hn,hp,n];exact⟨rfl,rfl,rfl,b⟩
 ·rw[o];unfold mO;rw[aB (by omega),hp,n];exact⟨rfl,rfl,rfl,b⟩
def rg3 (hi:q.i=3):ZW f D w (pG 2 w0 n0 g off cap f d D X P B most q lv v w):=by
 have m:=hS.kp;have hP:kV w0 X F:=m;have b2:bi 2=10:=rfl;have n2:np 2=13:=rfl;obtain⟨hp,o⟩:=hv.ag0 (by omega);have l:=hv.k2 rfl;have j:q.nm=[]:=l.nm (by show q.i<=7;omega);obtain⟨a1,a2⟩:=l.al (by show q.i<=9;omega);have a1:q.p%8=0:=a1;have a2:q.head=aL 0 (B.take (q.p/8)):=a2;have r:=hv.p2 rfl (by omega);have a:q.p=24:=by omega
 have c:q.ls=[]:=l.ls (by show q.i≠7;omega);have n:q.left=6:=l.l6 (by show q.i<=3;omega);refine pO hS h hvn hv (by omega) (by omega) 8 _ #[E X] #[] (by rw[hi];exact hP.p3) (ab3 _) true _ (ap6 hS h hv) rfl rfl rfl rfl rfl rfl (.inl rfl) (fun k=> ?_) (fun k=> ?_)
 ·by_cases hn:aG B q.p 8<32
  ·rw[aA hn];refine .inl ⟨rfl,hv.gg (q.i+1) (q.p+8) (aG B q.p 8) q.left _ q.ls q.nm (fun y=>by omega) (fun _=>⟨hp,o⟩) (by omega) (fun _=>by omega) ⟨fun _=>⟨by show(q.p+8)%8=0;omega,?_⟩,fun _=>hn,l.lf,fun _=>c,l.lb,by show 8*q.ls.length<=q.p+8;rw[c];simp,fun _=>j,fun y=>by have y:q.i+1<=3:=y;omega,fun _=>c⟩ (iW _ _),fun Y e out used name b=> ?_⟩
   ·show aL q.head [aG B q.p 8]=aL 0 (B.take ((q.p+8)/8));rw[a2];exact xR B q.p hB a1 k
   ·rw[Q8 (by show q.i+1=4;omega)]at b;have b:qA (B++Y) most (aG B q.p 8) (q.p+8) q.left e out used name:=b;rw[ZJ hi];refine⟨a,?_⟩;rw[a,n]at b;rw[a]at hn k;unfold jU;rw[aA (jT k),gZ Y k,aA hn];exact b
  ·rw[aB hn];refine .inr ⟨by omega,by omega,fun Y=> ?_⟩;rw[ZJ hi];refine⟨a,?_⟩;rw[a]at hn k;unfold jU;rw[aA (jT k),gZ Y k,aB hn,hp,o];exact⟨rfl,rfl,rfl,j⟩
 ·rw[ZJ hi];refine⟨a,?_⟩;rw[a]at k;unfold jU;rw[aB (by omega),hp,o];exact⟨rfl,rfl,rfl,j⟩
def rg4 (hi:q.i=4):ZW f D w (pG 2 w0 n0 g off cap f d D X P B most q lv v w):=by
 have n:=hS.kp;have hP:kV w0 X F:=n;have b2:bi 2=10:=rfl;have n2:np 2=13:=rfl;obtain⟨hp,s⟩:=hv.ag0 (by omega);have b:=hv.k2 rfl;have r:q.nm=[]:=b.nm (by show q.i<=7;omega);have u:q.left<65536:=b.lf;have o:q.ls=[]:=b.ls (by show q.i≠7;omega);have hh:=h.m.here;by_cases t:q.left=0
 ·refine pO hS h hvn hv (by omega) (by omega) 0 _ #[E X] #[] (by rw[hi];exact hP.p4) (OW _) true 0 (Qf hS h hv t) rfl rfl rfl rfl rfl rfl (.inl rfl) (fun k=> ?_) (fun k=>by omega);refine .inl ⟨rfl,hv.gg (q.i+1) q.p q.fl 0 q.head q.ls q.nm (fun y=>by omega) (fun _=>⟨hp,s⟩) (by omega) (fun _=>by omega) (b.skip (by show q.i<=9;omega) (by show 4<=q.i;omega) 0 (by omega) o) hv.hh,fun Y e out used name a=> ?_⟩;rw[TR (by show q.i+1=5;omega)]at a;rw[Q8 hi];unfold qA;rw[t,aA (by exact jT (by omega))];exact a
 ·refine pO hS h hvn hv (by omega) (by omega) 8 _ #[E X] #[] (by rw[hi];exact hP.p4) (OW _) (q.left==1) 0 (a92 hS h hv (by omega) (by omega) (if(q.left==1)=true then q.i+1 else q.i)) rfl rfl rfl rfl rfl rfl (.inr (by omega)) (fun k=> ?_) (fun k=> ?_)
  ·have l:(if(q.left==1)=true then q.i+1 else q.i)=q.i\/(if(q.left==1)=true then q.i+1 else q.i)=q.i+1:=(by by_cases y:(q.left==1)=true<;>simp[y]);refine .inl ⟨rfl,hv.gg (if(q.left==1)=true then q.i+1 else q.i) (q.p+8) q.fl (q.left-1) _ q.ls q.nm (fun y=>by omega) (fun _=>⟨hp,s⟩) (by omega) (fun _=>by omega) (b.byte hB (by show q.i<=9;omega) (by show 4<=q.i;omega) k _ _ l (by omega) (by show q.i≠7;omega)) (iW _ _),fun Y e out used name a=> ?_⟩;rw[Q8 hi];by_cases c:q.left=1
   ·have j:(q.left==1)=true:=(by rw[c];rfl);rw[TR (by show(if(q.left==1)=true then q.i+1 else q.i)=5;rw[aA j];omega)]at a;unfold qA;rw[c,aA (jT (by omega))];exact a
   ·have j:¬(q.left==1)=true:=(by simpa using c);rw[Q8 (by show(if(q.left==1)=true then q.i+1 else q.i)=4;rw[aB j];omega)]at a;have a:qA (B++Y) most q.fl (q.p+8) (q.left-1) e out used name:=a;unfold qA at a|-
    rw[show q.p+8+8*(q.left-1)=q.p+8*q.left by omega]at a;exact a
  ·rw[Q8 hi];unfold qA;rw[aB (by omega),hp,s];exact⟨rfl,rfl,rfl,r⟩
def rg5 (hi:q.i=5):ZW f D w (pG 2 w0 n0 g off cap f d D X P B most q lv v w):=by
 have t:=hS.kp;have hP:kV w0 X F:=t;have b2:bi 2=10:=rfl;have n2:np 2=13:=rfl;obtain⟨hp,u⟩:=hv.ag0 (by omega);have l:=hv.k2 rfl;have o:q.nm=[]:=l.nm (by show q.i<=7;omega);have c:q.fl<32:=l.fl (by show 4<=q.i;omega);have j:q.ls=[]:=l.ls (by show q.i≠7;omega);obtain⟨a1,a2⟩:=l.al (by show q.i<=9;omega);have a1:q.p%8=0:=a1;have a2:q.head=aL 0 (B.take (q.p/8)):=a2;have hh:=h.m.here;by_cases n:q.fl/4%2=1
 ·obtain⟨b,r,s⟩:=SH hS h hv (by rw[hi];exact hP.w5) (AQ (Qa _ c) (by omega) (by omega) c n) (ae2 _) (ak3 hS h hv);refine pO hS h hvn hv (by omega) (by omega) 16 _ #[] b r (pU _) true 0 s rfl rfl rfl rfl rfl rfl (.inl rfl) (fun k=> ?_) (fun k=> ?_)
  ·refine .inl ⟨rfl,hv.gg (q.i+1) (q.p+16) q.fl (aG B q.p 16) _ q.ls q.nm (fun y=>by omega) (fun _=>⟨hp,u⟩) (by omega) (fun _=>by omega) ⟨fun _=>⟨by show(q.p+16)%8=0;omega,?_⟩,fun _=>c,bO B q.p 16,fun _=>j,l.lb,by show 8*q.ls.length<=q.p+16;rw[j];simp,fun _=>o,fun y=>by have y:q.i+1<=3:=y;omega,fun _=>j⟩ (iW _ _),fun Y e out used name a=> ?_⟩
   ·show aL q.head [aG B q.p 16%256,aG B q.p 16/256]=aL 0 (B.take ((q.p+16)/8));rw[a2];exact ae0 B q.p hB a1 k
   ·rw[FL (by show q.i+1=6;omega)]at a;rw[TR hi];unfold kT;rw[aA n,aA (jT k),gZ Y k];exact a
  ·rw[TR hi];unfold kT;rw[aA n,aB (by omega),hp,u];exact⟨rfl,rfl,rfl,o⟩
 ·obtain⟨b,r,s⟩:=Xy hS h hv (by rw[hi];exact hP.w5) (AL (Qa _ c) (by omega) c n);refine pO hS h hvn hv (by omega) (by omega) 0 _ #[] b r (pU _) true 0 s rfl rfl rfl rfl rfl rfl (.inl rfl) (fun k=> ?_) (fun k=>by omega);refine .inl ⟨rfl,hv.gg (q.i+1) q.p q.fl q.left q.head q.ls q.nm (fun y=>by omega) (fun _=>⟨hp,u⟩) (by omega) (fun _=>by omega) (l.skip (by show q.i<=9;omega) (by show 4<=q.i;omega) q.left l.lf j) hv.hh,fun Y e out used name a=> ?_⟩;rw[FL (by show q.i+1=6;omega)]at a;have a:nV (B++Y) most q.fl q.p q.left e out used name:=a;rw[TR hi];unfold kT;unfold nV at a;rw[aB n]at a|-
  exact a
def rg6 (hi:q.i=6):ZW f D w (pG 2 w0 n0 g off cap f d D X P B most q lv v w):=by
 have C:=hS.kp;have hP:kV w0 X F:=C;have b2:bi 2=10:=rfl;have n2:np 2=13:=rfl;obtain⟨hp,t⟩:=hv.ag0 (by omega);have l:=hv.k2 rfl;have G:q.nm=[]:=l.nm (by show q.i<=7;omega);have j:q.fl<32:=l.fl (by show 4<=q.i;omega);have I:q.left<65536:=l.lf;have c:q.ls=[]:=l.ls (by show q.i≠7;omega);have hh:=h.m.here;by_cases o:q.fl/4%2=1
 ·have n:=AQ (Qa _ j) (by omega) (by omega) j o;by_cases H:q.left=0
  ·obtain⟨b,r,s⟩:=SH hS h hv (by rw[hi];exact hP.w6) n (OW _) (Qf hS h hv H);refine pO hS h hvn hv (by omega) (by omega) 0 _ #[] b r (pU _) true 0 s rfl rfl rfl rfl rfl rfl (.inl rfl) (fun k=> ?_) (fun k=>by omega);refine .inl ⟨rfl,hv.gg (q.i+1) q.p q.fl 0 q.head q.ls q.nm (fun y=>by omega) (fun _=>⟨hp,t⟩) (by omega) (fun _=>by omega) (l.skip (by show q.i<=9;omega) (by show 4<=q.i;omega) 0 (by omega) c) hv.hh,fun Y e out used name a=> ?_⟩;rw[CF (by show q.i+1=7;omega)]at a;have a:jW (B++Y) most q.fl q.p q.ls e out used name:=a;rw[FL hi];unfold nV;rw[aA o,H,aA (jT (by omega)),<-c];exact a
  ·obtain⟨b,r,s⟩:=SH hS h hv (by rw[hi];exact hP.w6) n (OW _) (a92 hS h hv (by omega) (by omega) (if(q.left==1)=true then q.i+1 else q.i));refine pO hS h hvn hv (by omega) (by omega) 8 _ #[] b r (pU _) (q.left==1) 0 s rfl rfl rfl rfl rfl rfl (.inr (by omega)) (fun k=> ?_) (fun k=> ?_)
   ·have A:(if(q.left==1)=true then q.i+1 else q.i)=q.i\/(if(q.left==1)=true then q.i+1 else q.i)=q.i+1:=(by by_cases y:(q.left==1)=true<;>simp[y]);refine .inl ⟨rfl,hv.gg (if(q.left==1)=true then q.i+1 else q.i) (q.p+8) q.fl (q.left-1) _ q.ls q.nm (fun y=>by omega) (fun _=>⟨hp,t⟩) (by omega) (fun _=>by omega) (l.byte hB (by show q.i<=9;omega) (by show 4<=q.i;omega) k _ _ A (by omega) (by show q.i≠7;omega)) (iW _ _),fun Y e out used name a=> ?_⟩;rw[FL hi];by_cases u:q.left=1
    ·have z:(q.left==1)=true:=(by rw[u];rfl);rw[CF (by show(if(q.left==1)=true then q.i+1 else q.i)=7;rw[aA z];omega)]at a;have a:jW (B++Y) most q.fl (q.p+8) q.ls e out used name:=a;unfold nV;rw[aA o,u,aA (jT (by omega)),<-c];exact a
    ·have z:¬(q.left==1)=true:=(by simpa using u);rw[FL (by show(if(q.left==1)=true then q.i+1 else q.i)=6;rw[aB z];omega)]at a;have a:nV (B++Y) most q.fl (q.p+8) (q.left-1) e out used name:=a;unfold nV at a|-
     rw[aA o]at a|-
     rw[show q.p+8+8*(q.left-1)=q.p+8*q.left by omega]at a;exact a
   ·rw[FL hi];unfold nV;rw[aA o,aB (by omega),hp,t];exact⟨rfl,rfl,rfl,G⟩
 ·obtain⟨b,r,s⟩:=Xy hS h hv (by rw[hi];exact hP.w6) (AL (Qa _ j) (by omega) j o);refine pO hS h hvn hv (by omega) (by omega) 0 _ #[] b r (pU _) true 0 s rfl rfl rfl rfl rfl rfl (.inl rfl) (fun k=> ?_) (fun k=>by omega);refine .inl ⟨rfl,hv.gg (q.i+1) q.p q.fl q.left q.head q.ls q.nm (fun y=>by omega) (fun _=>⟨hp,t⟩) (by omega) (fun _=>by omega) (l.skip (by show q.i<=9;omega) (by show 4<=q.i;omega) q.left l.lf c) hv.hh,fun Y e out used name a=> ?_⟩;rw[CF (by show q.i+1=7;omega)]at a;have a:jW (B++Y) most q.fl q.p q.ls e out used name:=a;rw[FL hi];unfold nV;rw[aB o,<-c];exact a
def rg7 (M:B.length<=8388608)(hi:q.i=7):ZW f D w (pG 2 w0 n0 g off cap f d D X P B most q lv v w):=by
 have H:=hS.kp;have hP:kV w0 X F:=H;have b2:bi 2=10:=rfl;have n2:np 2=13:=rfl;obtain⟨hp,C⟩:=hv.ag0 (by omega);have j:=hv.k2 rfl;have u:q.nm=[]:=j.nm (by show q.i<=7;omega);have c:q.fl<32:=j.fl (by show 4<=q.i;omega);have J:8*q.ls.length<=q.p:=j.ll;have hh:=h.m.here;obtain⟨a1,a2⟩:=j.al (by show q.i<=9;omega);have a1:q.p%8=0:=a1;have a2:q.head=aL 0 (B.take (q.p/8)):=a2;by_cases r:q.fl/8%2=1
 ·have t:=AQ (ar7 _ c) (by omega) (by omega) c r;have n:8*B.length<q.p+8->dV 2 B most q 3 (q.pre++q.o) 0 q.nm:=fun k=>by
   rw[CF hi];unfold jW;rw[aA r];refine⟨[],false,q.p, .miss _ k,?_⟩;rw[aB (by simp),hp,C];exact⟨rfl,rfl,rfl,u⟩
  have s:q.p+8<=8*B.length->(q.p+8)%8=0/\aL q.head [aG B q.p 8]=aL 0 (B.take ((q.p+8)/8)):=fun k=>⟨by omega,by rw[a2];exact xR B q.p hB a1 k⟩
  by_cases hn:aG B q.p 8=0
  ·obtain⟨b,z,A⟩:=SH hS h hv (by rw[hi];exact hP.w7) t (WI _) (Ut hS h hv hn j.lb);refine pO hS h hvn hv (by omega) (by omega) 8 _ #[] b z (pU _) true 0 A rfl rfl rfl rfl rfl rfl (.inl rfl) (fun k=> ?_) n;refine .inl ⟨rfl,hv.gg (q.i+1) (q.p+8) q.fl q.left _ [] (gY q.ls) (fun y=>by omega) (fun _=>⟨hp,C⟩) (by omega) (fun _=>by omega) ⟨fun _=>s k,fun _=>c,j.lf,fun _=>rfl,fun y G=>by simp at G,by show 8*0<=q.p+8;omega,fun y=>by have y:q.i+1<=7:=y;omega,fun y=>by have y:q.i+1<=3:=y;omega,fun _=>rfl⟩ (iW _ _),fun Y e out used name a=> ?_⟩;rw[JZ (by show q.i+1=8;omega)]at a;have a:gX (B++Y) most q.fl (q.p+8) (gY q.ls) e out used name:=a;rw[CF hi];unfold jW;rw[aA r];refine⟨[],true,q.p+8, .zero _ (jT k) (by rw[gZ Y k];exact hn),?_⟩;rw[aA rfl,bG];exact a
  ·obtain⟨b,z,A⟩:=SH hS h hv (by rw[hi];exact hP.w7) t (WI _) (ae1 hS h hv hn (by omega));refine pO hS h hvn hv (by omega) (by omega) 8 _ #[] b z (pU _) false 0 A rfl rfl rfl rfl rfl rfl (.inr (by omega)) (fun k=> ?_) n;refine .inl ⟨rfl,hv.gg q.i (q.p+8) q.fl q.left _ (q.ls++[aG B q.p 8]) q.nm (fun y=>by omega) (fun _=>⟨hp,C⟩) (by omega) (fun _=>by omega) ⟨fun _=>s k,fun _=>c,j.lf,fun y=>absurd hi y,j.lb.append (fun y G=>by simp at G;rw[G];exact bO B q.p 8),by show 8*(q.ls++[aG B q.p 8]).length<=q.p+8;rw[aN];simp;omega,fun _=>u,fun y=>by have y:q.i<=3:=y;omega,fun y=>absurd r y⟩ (iW _ _),fun Y e out used name a=> ?_⟩;rw[CF (by show q.i=7;exact hi)]at a;have a:jW (B++Y) most q.fl (q.p+8) (q.ls++[aG B q.p 8]) e out used name:=a;rw[CF hi];unfold jW at a|-
   rw[aA r]at a|-
   obtain⟨l,ok,I,K,a⟩:=a;have L:aG (B++Y) q.p 8≠0:=(by rw[gZ Y k];exact hn);refine⟨_,ok,I, .more _ l ok I (jT k) L K,?_⟩;rw[gZ Y k];rw[dB]at a;exact a
 ·obtain⟨b,z,A⟩:=Xy hS h hv (by rw[hi];exact hP.w7) (AL (ar7 _ c) (by omega) c r);refine pO hS h hvn hv (by omega) (by omega) 0 _ #[] b z (pU _) true 0 A rfl rfl rfl rfl rfl rfl (.inl rfl) (fun k=> ?_) (fun k=>by omega);refine .inl ⟨rfl,hv.gg (q.i+1) q.p q.fl q.left q.head q.ls q.nm (fun y=>by omega) (fun _=>⟨hp,C⟩) (by omega) (fun _=>by omega) (j.skip (by show q.i<=9;omega) (by show 4<=q.i;omega) q.left j.lf (j.l7 r)) hv.hh,fun Y e out used name a=> ?_⟩;rw[JZ (by show q.i+1=8;omega)]at a;have a:gX (B++Y) most q.fl q.p q.nm e out used name:=a;rw[CF hi];unfold jW;rw[aB r,<-u];exact a
def rg8 (hi:q.i=8):ZW f D w (pG 2 w0 n0 g off cap f d D X P B most q lv v w):=by
 have A:=hS.kp;have hP:kV w0 X F:=A;have b2:bi 2=10:=rfl;have n2:np 2=13:=rfl;obtain⟨hp,G⟩:=hv.ag0 (by omega);have n:=hv.k2 rfl;have c:q.fl<32:=n.fl (by show 4<=q.i;omega);have C:q.ls=[]:=n.ls (by show q.i≠7;omega);have hh:=h.m.here;by_cases j:q.fl/16%2=1
 ·have o:=AQ (Zf _ c) (by omega) (by omega) c j;obtain⟨b,s,u⟩:=SH hS h hv (by rw[hi];exact hP.w8) o (Vd _) (aa3 hS h hv (if(aG B q.p 8==0)=true then q.i+1 else q.i));refine pO hS h hvn hv (by omega) (by omega) 8 _ #[] b s (pU _) (aG B q.p 8==0) 0 u rfl rfl rfl rfl rfl rfl (.inr (by omega)) (fun k=> ?_) (fun k=> ?_)
  ·have z:(if(aG B q.p 8==0)=true then q.i+1 else q.i)=q.i\/(if(aG B q.p 8==0)=true then q.i+1 else q.i)=q.i+1:=(by by_cases y:(aG B q.p 8==0)=true<;>simp[y]);refine .inl ⟨rfl,hv.gg (if(aG B q.p 8==0)=true then q.i+1 else q.i) (q.p+8) q.fl q.left _ q.ls q.nm (fun y=>by omega) (fun _=>⟨hp,G⟩) (by omega) (fun _=>by omega) (n.byte hB (by show q.i<=9;omega) (by show 4<=q.i;omega) k _ q.left z n.lf (by show q.i≠7;omega)) (iW _ _),fun Y e out used name a=> ?_⟩;rw[JZ hi];by_cases r:aG B q.p 8=0
   ·have t:(aG B q.p 8==0)=true:=(by rw[r];rfl);rw[KP (by show(if(aG B q.p 8==0)=true then q.i+1 else q.i)=9;rw[aA t];omega)]at a;have a:jG (B++Y) most q.fl (q.p+8) q.nm e out used name:=a;unfold gX;rw[aA j];refine⟨[],true,q.p+8, .zero _ (jT k) (by rw[gZ Y k];exact r),?_⟩;rw[aA rfl];exact a
   ·have t:¬(aG B q.p 8==0)=true:=(by simpa using r);rw[JZ (by show(if(aG B q.p 8==0)=true then q.i+1 else q.i)=8;rw[aB t];omega)]at a;have a:gX (B++Y) most q.fl (q.p+8) q.nm e out used name:=a;unfold gX at a|-
    rw[aA j]at a|-
    obtain⟨l,ok,H,I,a⟩:=a;exact⟨_,ok,H, .more _ l ok H (jT k) (by rw[gZ Y k];exact r) I,a⟩
  ·rw[JZ hi];unfold gX;rw[aA j];refine⟨[],false,q.p, .miss _ k,?_⟩;rw[aB (by simp),hp,G];exact⟨rfl,rfl,rfl,rfl⟩
 ·obtain⟨b,s,u⟩:=Xy hS h hv (by rw[hi];exact hP.w8) (AL (Zf _ c) (by omega) c j);refine pO hS h hvn hv (by omega) (by omega) 0 _ #[] b s (pU _) true 0 u rfl rfl rfl rfl rfl rfl (.inl rfl) (fun k=> ?_) (fun k=>by omega);refine .inl ⟨rfl,hv.gg (q.i+1) q.p q.fl q.left q.head q.ls q.nm (fun y=>by omega) (fun _=>⟨hp,G⟩) (by omega) (fun _=>by omega) (n.skip (by show q.i<=9;omega) (by show 4<=q.i;omega) q.left n.lf C) hv.hh,fun Y e out used name a=> ?_⟩;rw[KP (by show q.i+1=9;omega)]at a;have a:jG (B++Y) most q.fl q.p q.nm e out used name:=a;rw[JZ hi];unfold gX;rw[aB j];exact a
omit hB in
def rg9 (hi:q.i=9):ZW f D w (pG 2 w0 n0 g off cap f d D X P B most q lv v w):=by
 have u:=hS.kp;have hP:kV w0 X F:=u;have b2:bi 2=10:=rfl;have n2:np 2=13:=rfl;obtain⟨hp,r⟩:=hv.ag0 (by omega);have o:=hv.k2 rfl;have j:q.fl<32:=o.fl (by show 4<=q.i;omega);have hh:=h.m.here;obtain⟨a1,a2⟩:=o.al (by show q.i<=9;omega);have a2:q.head=aL 0 (B.take (q.p/8)):=a2;have c:∀Y,(B++Y).take (q.p/8)=B.take (q.p/8):=fun Y=>UA (by omega);by_cases l:q.fl/2%2=1
 ·have n:=AQ (and_2 _ j) (by omega) (by omega) j l;obtain⟨b,s,t⟩:=SH hS h hv (by rw[hi];exact hP.w9) n (YI _) (Bo hS h hv);refine pO hS h hvn hv (by omega) (by omega) 16 _ #[] b s (pU _) true _ t rfl rfl rfl rfl rfl rfl (.inl rfl) (fun k=> ?_) (fun k=> ?_)
  ·by_cases hn:aG B q.p 16=q.head%65536
   ·rw[aA hn];refine .inl ⟨rfl,hv.gg (q.i+1) (q.p+16) q.fl q.left q.head q.ls q.nm (fun y=>by omega) (fun _=>⟨hp,r⟩) (by omega) (fun _=>by omega) (o.behind (by show 8<=q.i;omega) 16 _ (by omega)) hv.hh,fun Y e out used name a=> ?_⟩;have a:=Ov (by show q.i+1=10;omega) rfl a;have a:rY (B++Y) most (q.p+16) q.nm e out used name:=a;rw[KP hi];unfold jG;rw[aA l,aA (jT k),gZ Y k,c,<-a2,aA hn];exact a
   ·rw[aB hn];refine .inr ⟨by omega,by omega,fun Y=> ?_⟩;rw[KP hi];unfold jG;rw[aA l,aA (jT k),gZ Y k,c,<-a2,aB hn,hp,r];exact⟨rfl,rfl,rfl,rfl⟩
  ·rw[KP hi];unfold jG;rw[aA l,aB (by omega),hp,r];exact⟨rfl,rfl,rfl,rfl⟩
 ·obtain⟨b,s,t⟩:=Xy hS h hv (by rw[hi];exact hP.w9) (AL (and_2 _ j) (by omega) j l);refine pO hS h hvn hv (by omega) (by omega) 0 _ #[] b s (pU _) true 0 t rfl rfl rfl rfl rfl rfl (.inl rfl) (fun k=> ?_) (fun k=>by omega);refine .inl ⟨rfl,hv.gg (q.i+1) q.p q.fl q.left q.head q.ls q.nm (fun y=>by omega) (fun _=>⟨hp,r⟩) (by omega) (fun _=>by omega) (o.behind (by show 8<=q.i;omega) 0 _ (by omega)) hv.hh,fun Y e out used name a=> ?_⟩;have a:=Ov (by show q.i+1=10;omega) rfl a;have a:rY (B++Y) most q.p q.nm e out used name:=a;rw[KP hi];unfold jG;rw[aB l];exact a
end head
def aD9 (m:RS 2 w0 f d D X P F)(h:RM 2 w0 n0 w g off cap f d D X P B most q lv vo v)(j:RV 2 B most q)(hi:q.i=11):ZW f D w (pG 2 w0 n0 g off cap f d D X P B most q lv v w):=by
 have n:=m.kp;have hP:kV w0 X F:=n;have b2:bi 2=10:=rfl;have n2:np 2=13:=rfl;have r:=j.k2 rfl;have l:=j.al8 (by omega);obtain⟨b,c⟩:=j.au7 rfl;refine pO m h (fun y=>by omega) j (by omega) (by omega) 32 _ #[E X] #[] (by rw[hi];exact hP.p11) (ad2 _) true _ (am1 m h j) rfl rfl rfl rfl rfl rfl (.inl rfl) (fun k=> ?_) (fun k=> ?_)
 ·by_cases hn:aG B q.p 32=q.check
  ·rw[aA hn];refine .inl ⟨rfl,j.gg (q.i+1) (q.p+32) q.fl q.left q.head q.ls q.nm (fun y=>by omega) (fun y=>by omega) (by omega) (fun y=>by omega) (r.behind (by show 8<=q.i;omega) 32 _ (by omega)) j.hh,fun Y e out used name a=> ?_⟩;rw[P5 (by show q.i+1=12;omega)]at a;have a:=a.2.2;have a:BZ (B++Y) (q.p+32) (q.pre++q.o) q.nm e out used name:=a;rw[ZU hi];refine⟨b,c,l,?_⟩;unfold pF;rw[aA (jT k),gZ Y k,<-b,aA hn];exact a
  ·rw[aB hn];refine .inr ⟨by omega,by omega,fun Y=> ?_⟩;rw[ZU hi];refine⟨b,c,l,?_⟩;unfold pF;rw[aA (jT k),gZ Y k,<-b,aB hn];exact⟨rfl,rfl,rfl,rfl⟩
 ·rw[ZU hi];refine⟨b,c,l,?_⟩;unfold pF;rw[aB (by omega)];exact⟨rfl,rfl,rfl,rfl⟩
def aE2 (l:RS 2 w0 f d D X P F)(h:RM 2 w0 n0 w g off cap f d D X P B most q lv vo v)(c:RV 2 B most q)(hi:q.i=12):ZW f D w (pG 2 w0 n0 g off cap f d D X P B most q lv v w):=by
 have m:=l.kp;have hP:kV w0 X F:=m;have b2:bi 2=10:=rfl;have n2:np 2=13:=rfl;have t:=c.k2 rfl;have j:=c.al8 (by omega);obtain⟨s,b⟩:=c.au7 rfl;refine pO l h (fun y=>by omega) c (by omega) (by omega) 32 _ #[E X] #[] (by rw[hi];exact hP.p12) (aj3 _) true _ (au4 l h c) rfl rfl rfl rfl rfl rfl (.inl rfl) (fun k=> ?_) (fun k=> ?_)
 ·by_cases hn:aG B q.p 32=q.size
  ·rw[aA hn];refine .inl ⟨rfl,c.gg (q.i+1) (q.p+32) q.fl q.left q.head q.ls q.nm (fun y=>by omega) (fun y=>by omega) (by omega) (fun y=>by omega) (t.behind (by show 8<=q.i;omega) 32 _ (by omega)) c.hh,fun Y e out used name a=> ?_⟩;rw[aq9 (by show q.i+1=13;omega)]at a;obtain⟨rfl,r,n,rfl⟩:=a;have r:q.p+32=8*used:=r;have n:q.pre++q.o=out:=n;rw[P5 hi];refine⟨b,j,n.symm,rfl,?_⟩;rw[aA (jT k),gZ Y k,<-b,aA hn];exact⟨rfl,by omega⟩
  ·rw[aB hn];refine .inr ⟨by omega,by omega,fun Y=> ?_⟩;rw[P5 hi];refine⟨b,j,rfl,rfl,?_⟩;rw[aA (jT k),gZ Y k,<-b,aB hn];exact⟨rfl,rfl⟩
 ·rw[P5 hi];refine⟨b,j,rfl,rfl,?_⟩;rw[aB (by omega)];exact⟨rfl,rfl⟩
variable {k:Nat} {w0 w:aH} {n0 g off cap f d D X P:Nat} {F:Nat->aK} {B:aD} {most:Nat} {q:RQ} {lv vo v:aK}
def av2 (j:RS k w0 f d D X P F)(h:RM k w0 n0 w g off cap f d D X P B most q lv vo v)(t:q.i<=bi k->vo= .slice none 0 0/\q.o=[])(l:RV k B most q)(m:iR B)(J:B.length<=8388608)(L:most<=1048576)(A:n0<=w.heap.size)(hi:q.i<np k):ZW f D w (pG k w0 n0 g off cap f d D X P B most q lv v w):=by
 have hk:=j.kk;have c:q.i<bi k->vo= .slice none 0 0:=fun y=>(t (by omega)).1;by_cases K:q.i=bi k
 ·obtain⟨a,b⟩:=t (by omega);exact aA7 j h a b l K L A
 ·have r:k=0\/k=1\/k=2:=by omega
  rcases r with rfl|rfl|rfl
  ·have C:np 0=1:=rfl;have G:bi 0=0:=rfl;omega
  ·have C:np 1=4:=rfl;have G:bi 1=2:=rfl;have u:q.i=0\/q.i=1\/q.i=3:=(by omega);rcases u with y|y|y
   ·exact rz0 j h c l y
   ·exact rz1 j h c l y
   ·exact rz3 j h l y
  ·have C:np 2=13:=rfl;have G:bi 2=10:=rfl;have z:=j.kp;have hP:kV w0 X F:=z;have s:=l.p2 rfl;have u:q.i=0\/q.i=1\/q.i=2\/q.i=3\/q.i=4\/q.i=5\/q.i=6\/q.i=7\/q.i=8\/q.i=9\/q.i=11\/q.i=12:=(by omega);rcases u with y|y|y|y|y|y|y|y|y|y|y|y
   ·have hp:q.p=0:=(by have:=s (by omega);omega);refine Jl j h c l m (by omega) (by rw[y];exact hP.m0) (fun Z=>gz1 Z most) (fun Z e out used name=> ?_) (fun Z q' e out used name H I n=> ?_)
    ·rw[ZF y,hp];exact propext ⟨fun x=>x.2,fun x=>⟨rfl,x⟩⟩
    ·rw[a11 (by omega)]at n;exact n.2
   ·have hp:q.p=8:=(by have:=s (by omega);omega);refine Jl j h c l m (by omega) (by rw[y];exact hP.m1) (fun Z=>gz2 Z most) (fun Z e out used name=> ?_) (fun Z q' e out used name H I n=> ?_)
    ·rw[a11 y,hp];exact propext ⟨fun x=>x.2,fun x=>⟨rfl,x⟩⟩
    ·rw[Yp (by omega)]at n;exact n.2
   ·have hp:q.p=16:=(by have:=s (by omega);omega);refine Jl j h c l m (by omega) (by rw[y];exact hP.m2) (fun Z=>jU Z most 24) (fun Z e out used name=> ?_) (fun Z q' e out used name H I n=> ?_)
    ·rw[Yp y,hp];exact propext ⟨fun x=>x.2,fun x=>⟨rfl,x⟩⟩
    ·rw[ZJ (by omega)]at n;exact n.2
   ·exact rg3 j h c l m y
   ·exact rg4 j h c l m y
   ·exact rg5 j h c l m y
   ·exact rg6 j h c l m y
   ·exact rg7 j h c l m J y
   ·exact rg8 j h c l m y
   ·exact rg9 j h c l y
   ·exact aD9 j h l y
   ·exact aE2 j h l y
def Ub (hk:k<=2)(hi:q.i=np k){e:Nat}{out:aD}{used:Nat}{name:aD}:dV k B most q e out used name=(e=0/\q.p=8*used/\q.pre++q.o=out/\name=q.nm):=by
 have b:=XQ k;have a:k=0\/k=1\/k=2:=by omega
 unfold dV;rw[aB (by omega)];rcases a with rfl|rfl|rfl
 ·rw[aA rfl]
 ·rw[aB (by omega),aA rfl,show q.i=4 from hi];unfold as2;exact propext ⟨fun x=>⟨x.1.1,x.1.2.1,x.1.2.2,x.2⟩,fun x=>⟨⟨x.1,x.2.1,x.2.2.1⟩,x.2.2.2⟩⟩
 ·rw[aB (by omega),aB (by omega)];unfold nS;rw[show q.g.i=13 from hi];rfl
def az4 (k:Nat)(w0:aH)(n0:Nat)(g off cap f d D X P:Nat)(B:aD)(most:Nat)(q:RQ)(lv v:aK)(w:aH)(x:Nat)(w2:aH):Prop:=
  ∃ (parts vo' : aK) (o' nm' : aD), gQ w2 D f d parts vo' (eP nm') /\ Taken w2 n0 vo' o' /\ Step (RO D d f X lv v) w w2 /\
    ((x=0/\∃used,bN w2 f (.slice (bE g off (B.drop q.z).length) (B.drop q.z).length cap) (8*(used-q.z)) q.z/\q.z<=used/\used<=B.length/\∀Y,dV k (B++Y) most q 0 (q.pre++o') used nm')\/
     (x=3/\dV k B most q 3 (q.pre++o') 0 nm'/\∃q' lv' v',OG k w0 w2 g off cap f d D X B most q' lv' v'/\parts=fD P q'.i (np k)/\q'.o=o'/\q'.nm=nm'/\(∀j,lv'.ownBlock=some j\/v'.ownBlock=some j->RO D d f X lv v j\/w.heap.size<=j)/\Bk k B most q q'/\RV k B most q'/\q'.z=q.z/\q'.pre=q.pre/\Apart vo' v')\/
     (x≠0/\x≠3/\∀Y,dV k (B++Y) most q x (q.pre++o') 0 nm'))
def Yb (hS:RS k w0 f d D X P F)(h:RM k w0 n0 w g off cap f d D X P B most q lv vo v)(W:q.i<=bi k->vo= .slice none 0 0/\q.o=[])(hv:RV k B most q)(hB:iR B)(hL:B.length<=8388608)(hm:most<=1048576)(ac:n0<=w.heap.size):Calls prog 90 #[E D] w fun r w'=>∃x:Nat,r= .returned (V (x:Nat))/\az4 k w0 n0 g off cap f d D X P B most q lv v w x w':=by
 have ad:=a03 k;have ab:=XQ k;refine Vw D f (fun n wr=>∃a H u v1,S9 k B a<=n/\RM k w0 n0 wr g off cap f d D X P B most a H u v1/\(a.i<=bi k->u= .slice none 0 0/\a.o=[])/\RD D d f X w lv v wr H v1/\Bk k B most q a/\RV k B most a/\a.z=q.z/\a.pre=q.pre) (fun x wr=>az4 k w0 n0 g off cap f d D X P B most q lv v w x wr) (S9 k B q) w ⟨q,lv,vo,v,aS _,h,W,RD.refl ..,fun _ _ _ _ _ x=>x,hv,rfl,rfl⟩ ?_;rintro n wr ⟨a,H,u,v1,hn,b,Q,c,t,G,hz,hp⟩;have k2:wr.cell? (U D 2)=some (fD P a.i (np k)):=aC b.dec 2 _ rfl;have k0:wr.cell? (U D 0)=some (E f):=aC b.dec 0 _ rfl;by_cases N:a.i<np k
 ·refine⟨some ⟨P,a.i,none⟩,np k-a.i,np k-a.i,by rw[k2];unfold fD;rw[aA N];rfl,k0,fun x=>by omega,fun _=> ?_⟩;refine(av2 hS b Q G hB hL hm (by have:=c.step.size;omega) N).mono ?_;rintro r w2 ⟨x,rfl,⟨J,s,I,l,v2,a1,a2,K,L,S,a6,T,R⟩|⟨J,s,I,l,v2,a1,K,L,S,a6,T,R,a9⟩|⟨J,Z,parts,l,o2,aa,a1,a2,K,L⟩⟩
  ·exact⟨x,rfl, .inl ⟨J,S9 k B s,by omega,s,I,l,v2,aS _,a1,a2,c.trans K,fun Y e out used name y=>t Y e out used name (L Y e out used name y),S,T.trans hz,R.trans hp⟩⟩
  ·have M:Bk k B most q s:=fun Y e out used name y=>t Y e out used name (L Y e out used name y);have C:=c.trans K;refine⟨x,rfl, .inr ⟨by omega,_,l,s.o,s.nm,a1.dec,a1.row,C.step, .inr (.inl ⟨J,?_,s,I,v2,a1.m,rfl,rfl,rfl,C.own,M,S,T.trans hz,R.trans hp,a9⟩)⟩⟩;have A:=M [] 3 (s.pre++s.o) 0 s.nm (by rw[bG];exact a6);rw[bG,R.trans hp]at A;exact A
  ·refine⟨x,rfl, .inr ⟨J,parts,l,o2,aa,a1,a2,c.step.trans' K (fun j hj y=>(c.ro j y).elim id (fun z=>by omega)), .inr (.inr ⟨J,Z,fun Y=> ?_⟩)⟩⟩;have A:=t Y _ _ _ _ (L Y);rw[hp]at A;exact A
 ·have hi:a.i=np k:=by have:=G.ile;omega
  have h8:=G.al8 (by omega);have ae:=b.m.zp;have hh:=b.m.here;refine⟨some ⟨P,np k-1,none⟩,0,0,by rw[k2,hi];unfold fD;rw[aB (by omega)],k0,fun _=>⟨_,u,a.o,a.nm,b.dec,b.row,c.step, .inl ⟨rfl,a.p/8,?_,by omega,by omega,fun Y=> ?_⟩⟩,fun x=>absurd rfl x⟩
  ·have A:=b.m.feed;rw[hz]at A;rw[show 8*(a.p/8-q.z)=a.p-8*q.z by omega];exact A
  ·refine t Y _ _ _ _ ?_;rw[Ub hS.kk hi];exact⟨rfl,by omega,by rw[hp],rfl⟩
end Go.Proofs.YtbpahojchgpdnaaGreatDoor
