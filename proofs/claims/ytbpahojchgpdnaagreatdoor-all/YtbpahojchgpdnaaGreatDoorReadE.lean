import Derived.Test.YtbpahojchgpdnaaGreatDoorReadD
set_option maxRecDepth 20000
set_option maxHeartbeats 4000000
set_option linter.all false
namespace Go.Proofs.YtbpahojchgpdnaaGreatDoor
open Go.RowKit Go.dM Go.Maps Go.Proofs.Tryz
variable {cap1 e g1 j k most off1 used x:Nat} {w w2 w3 w4:aH} {B B' name out ys:aD} {vo:aK} {nmb:bY}
def MJ (k most:Nat):RQ:=⟨0,0,0,0,6,0,if k=1 then 1 else 0,0,[],[],[],[],qJ most 0⟩
def xV (k:Nat)(B:aD)(most e:Nat)(out:aD)(used:Nat)(name:aD):Prop:=dV k B most (MJ k most) e out used name
structure EO (k most:Nat)(w:aH)(Rb:Nat)(B pre nm:aD)(Own:Nat->Prop)(w0:aH)(g off cap f d D X P:Nat)(F:Nat->aK)(q:RQ)(lv v:aK):Prop where
 rs:RS k w0 f d D X P F
 m:OG k w0 w g off cap f d D X B most q lv v
 dec:gQ w D f d (fD P q.i (np k)) (.slice none 0 0) (eP q.nm)
 rv:RV k B most q
 o:q.o=[]
 fed:uP w w0.heap.size f g off cap (B.drop q.z)
 bk:Bk k B most (MJ k most) q
 now:xV k B most 3 pre 0 nm
 ay7:q.pre=pre
 enm:q.nm=nm
 blk:w.heap[Rb]? =some (.cells #[E f,E D,V 3, .slice none 0 0,V 0, .string (eP nm)] 82 (0,0))
 rb:w0.heap.size<=Rb
 rbo:Rb≠g/\lv.ownBlock≠some Rb/\v.ownBlock≠some Rb
 own:∀j,Own j↔4<=j/\(j=Rb\/(f<=j/\j<w0.heap.size)\/j=g\/lv.ownBlock=some j\/v.ownBlock=some j)
structure as7 (k most:Nat)(w:aH)(Rb:Nat)(B pre:aD)(e used:Nat)(nm:aD)(Own:Nat->Prop):Prop where
 blk:w.heap[Rb]? =some (.cells #[.pointer none, .pointer none,V (e:Nat), .slice none 0 0,V (used:Nat), .string (eP nm)] 82 (0,0))
 e3:e≠3
 all:∀Y,xV k (B++Y) most e pre used nm
 own:∀j,Own j↔j=Rb
 rb4:4<=Rb
def Rd (k most:Nat)(w:aH)(Rb:Nat)(B pre:aD)(e used:Nat)(nm:aD)(Own:Nat->Prop):Prop:=
 (e=3/\used=0/\∃w0 g off cap f d D X P F q lv v,EO k most w Rb B pre nm Own w0 g off cap f d D X P F q lv v)\/as7 k most w Rb B pre e used nm Own
variable {k most:Nat} {w w':aH} {Rb:Nat} {B pre:aD} {e used:Nat} {nm:aD} {Own:Nat->Prop}
def Rd.answer (h:Rd k most w Rb B pre e used nm Own):xV k B most e pre used nm:=by
 rcases h with⟨rfl,rfl,_,_,_,_,_,_,_,_,_,_,_,_,_,h⟩|h
 ·exact h.now
 ·have:=h.all [];rw[bG]at this;exact this
def Rd.blk (h:Rd k most w Rb B pre e used nm Own):∃a b,w.heap[Rb]? =some (.cells #[.pointer a, .pointer b,V e, .slice none 0 0,V used, .string (eP nm)] 82 (0,0)):=by
 rcases h with⟨rfl,rfl,_,_,_,_,_,_,_,_,_,_,_,_,_,h⟩|h
 ·exact⟨_,_,h.blk⟩
 ·exact⟨_,_,h.blk⟩
def Rd.lt (h:Rd k most w Rb B pre e used nm Own)(a:Own j):4<=j/\j<w.heap.size:=by
 rcases h with⟨rfl,rfl,_,_,_,_,_,_,_,_,_,_,_,_,_,h⟩|h
 ·obtain⟨b,y⟩:=(h.own j).1 a;have:=h.m.big;refine⟨b,?_⟩;rcases y with y|y|y|y|y
  ·rw[y];exact aO h.blk
  ·omega
  ·rw[y];exact h.m.glt
  ·exact(h.m.lets.lt j y).2
  ·exact(h.m.ar8 j y).2.1
 ·rw[(h.own j).1 a];exact⟨h.rb4,aO h.blk⟩
def Rd.mem (h:Rd k most w Rb B pre e used nm Own):Own Rb:=by
 rcases h with⟨rfl,rfl,_,_,_,_,_,_,_,_,_,_,_,_,_,h⟩|h
 ·refine(h.own Rb).2 ⟨?_, .inl rfl⟩;have:=h.rb;have:=h.rs.f4;have:=h.rs.fd;have:=h.rs.dD;have:=h.rs.DP;have:=h.rs.PN;omega
 ·exact(h.own Rb).2 rfl
def Rd.frame (h:Rd k most w Rb B pre e used nm Own){S:Nat->Prop}(hs:Step S w w')(p:∀j,S j->j<w.heap.size->4<=j/\¬Own j/\CG w j):Rd k most w' Rb B pre e used nm Own:=by
 have i:¬S Rb:=fun x=>(p Rb x (h.lt h.mem).2).2.1 h.mem;rcases h with⟨rfl,rfl,w0,g,off,cap,f,d,D,X,P,F,q,lv,v,h⟩|h
 ·have c1:=h.rs.f4;have c2:=h.rs.fd;have c3:=h.rs.dD;have c4:=h.rs.DP;have t:=h.rs.PN;have u:=h.m.big;have no:∀j,S j->j<w.heap.size->4<=j/\¬(f<=j/\j<w0.heap.size)/\j≠g/\lv.ownBlock≠some j/\v.ownBlock≠some j/\CG w j:=fun j r s=>by
   obtain⟨a,b,c⟩:=p j r s;have l:¬(j=Rb\/(f<=j/\j<w0.heap.size)\/j=g\/lv.ownBlock=some j\/v.ownBlock=some j):=fun y=>b ((h.own j).2 ⟨a,y⟩);exact⟨a,fun y=>l (.inr (.inl y)),fun y=>l (.inr (.inr (.inl y))),fun y=>l (.inr (.inr (.inr (.inl y)))),fun y=>l (.inr (.inr (.inr (.inr y)))),c⟩
  have n:=h.m.frame h.rs hs no;refine .inl ⟨rfl,rfl,w0,g,off,cap,f,d,D,X,P,F,q,lv,v,h.rs,n,hs.at_ h.dec (fun x=>(no D x (by omega)).2.1 ⟨by omega,by omega⟩),h.rv,h.o,⟨n.src,n.AA,n.glt,h.fed.aF4,h.fed.le,h.fed.aH1⟩,h.bk,h.now,h.ay7,h.enm,hs.at_ h.blk i,h.rb,h.rbo,h.own⟩
 ·exact .inr ⟨hs.at_ h.blk i,h.e3,h.all,h.own,h.rb4⟩
structure Xi (k most:Nat)(w w':aH)(f d D X P:Nat)(F:Nat->aK):Prop where
 rs:RS k w' f d D X P F
 dec:w'.heap[d]? =some (AO f most)
 wrap:gQ w' D f d (fD P 0 (np k)) (.slice none 0 0) (eP [])
 H9:ED k w' X D (MJ k most) (.slice none 0 0)
 step:O w w'
 low:w.heap.size<=d
def aB8 (k f most:Nat)(w:aH)(hk:k<=2)(i:4<=f)(p:f<w.heap.size):Calls prog 36 #[V k,E f,V most] w fun e w'=>∃d D X P F,e= .returned (.tuple #[E D,V 0])/\Xi k most w w' f d D X P F:=by
 have o:k=0\/k=1\/k=2:=by omega
 rcases o with rfl|rfl|rfl
 ·apply(ao6 f most w).mono;rintro e w' ⟨rfl,a⟩;have hs:O w w':=by rw[a];exact(((aU _ _).alloc _).alloc _).alloc _
  have t:w'.heap.size=w.heap.size+3:=by rw[a];simp
  have m:w'.heap[w.heap.size]? =some (AO f most):=by
   rw[a];exact((dG _ _ _ (by simp;omega)).trans (dG _ _ _ (by simp))).trans (aR _ _)
  have b:w'.heap[w.heap.size+1]? =some (.cells #[E f,E w.heap.size, .slice (some ⟨w.heap.size+1+1,0,none⟩) 1 1, .slice none 0 0, .string ⟨#[]⟩] 96 (0,0)):=by
   rw[a];refine(dG _ _ _ (by simp)).trans ?_;have c:=aR (w.alloc (.cells #[E f, .slice none 0 0,V 0,V most,V 0, .bool false,V 0, .map none,V 0, .map none,V 0, .pointer none] 128)) (.cells #[E f,E w.heap.size, .slice (some ⟨w.heap.size+1+1,0,none⟩) 1 1, .slice none 0 0, .string ⟨#[]⟩] 96);simpa using c
  have l:w'.heap[w.heap.size+2]? =some (.cells #[.func (.func 50) #[.pointer (some ⟨w.heap.size+1,0,none⟩)] #[]] 138 (0,0)):=by
   rw[a];have c:=aR ((w.alloc (.cells #[E f, .slice none 0 0,V 0,V most,V 0, .bool false,V 0, .map none,V 0, .map none,V 0, .pointer none] 128)).alloc (.cells #[E f,E w.heap.size, .slice (some ⟨w.heap.size+1+1,0,none⟩) 1 1, .slice none 0 0, .string ⟨#[]⟩] 96)) (.cells #[.func (.func 50) #[.pointer (some ⟨w.heap.size+1,0,none⟩)] #[]] 138);simpa using c
  refine⟨w.heap.size,w.heap.size+1,w.heap.size+1,w.heap.size+2,fun _=> .func (.func 50) #[.pointer (some ⟨w.heap.size+1,0,none⟩)] #[],rfl,⟨by omega,i,by omega,by omega,by omega,by omega,fun _=>rfl,fun y=>absurd rfl y,fun j s=> ?_,rfl⟩,m,b,bT,hs,aS _⟩;have r:np 0=1:=rfl;obtain rfl:j=0:=by omega
  exact aC l 0 _ rfl
 ·apply(Yn f most w).mono;rintro e w' ⟨rfl,h⟩;have b:=h.size;exact⟨w.heap.size,w.heap.size+1,w.heap.size+2,w.heap.size+3,wD (w.heap.size+2),rfl,⟨by omega,i,by omega,by omega,by omega,by omega,fun y=>by omega,fun _=>⟨by omega,by omega⟩,h.parts,fun j _=>rfl⟩,h.dec,h.wrap,h.kept,h.step,aS _⟩
 ·apply(Zo f most w).mono;rintro e w' ⟨rfl,P,F,h,n⟩;have b:=h.size;have l:=h.lt;exact⟨w.heap.size,w.heap.size+1,w.heap.size+2,P,F,rfl,⟨by omega,i,by omega,by omega,by omega,by omega,fun y=>by omega,fun _=>⟨by omega,by omega⟩,h.parts,n⟩,h.dec,h.wrap,h.kept,h.step,aS _⟩
def Tw (k most:Nat)(hk:k<=2):xV k [] most 3 [] 0 []:=by
 have a:k=0\/k=1\/k=2:=by omega
 unfold xV dV;rcases a with rfl|rfl|rfl
 ·rw[aA rfl];refine⟨_,3,[],0, .miss _ (by show(0:Nat)≠3;omega) ?_,by rw[aB (by omega)];exact⟨rfl,rfl,rfl,rfl⟩⟩;rfl
 ·rw[aB (show¬(MJ 1 most).i=bi 1 from(by decide:¬(0:Nat)=bi 1)),aB (by omega),aA rfl];refine⟨⟨rfl,?_⟩,rfl⟩;unfold xO;rw[aB (by simp)];exact⟨rfl,rfl,rfl⟩
 ·rw[aB (show¬(MJ 2 most).i=bi 2 from(by decide:¬(0:Nat)=bi 2)),aB (by omega),aB (by omega)];refine⟨rfl,?_⟩;unfold xA mO;rw[aB (by simp)];exact⟨rfl,rfl,rfl,rfl⟩
def RV.start (k most:Nat):RV k [] most (MJ k most):=by
 have b:bi k<np k:=XQ k;refine⟨fun y a=>by simp[MJ]at a,by simp[MJ],fun e=> ?_,fun e=> ?_,fun y=>by have y:bi k<0:=y;omega,fun _=>⟨rfl,rfl⟩,iZ _,fun _=>⟨by show(0:Nat)≠3;omega,rfl,rfl,rfl⟩,fun _ y=>by have y:1<=0:=y;omega,fun _ _=>rfl,fun _ _=>rfl,fun _=> ?_,fun _=>⟨rfl,rfl⟩,by show(0:Nat)<_;omega⟩
 ·subst e;simp[MJ,dZ,eH]
 ·subst e;simp[MJ,aL,gJ]
 ·exact⟨fun _=>⟨rfl,by simp[RQ.g,MJ,aL,gJ]⟩,fun y=>by have y:4<=0:=y;omega,by show(6:Nat)<65536;omega,fun _=>rfl,fun y a=>by simp[RQ.g,MJ]at a,aS _,fun _=>rfl,fun _=>rfl,fun _=>rfl⟩
def Xi.live {w5:aH}{f d D X P:Nat}{F:Nat->aK}(h:Xi k most w w4 f d D X P F)(p:bL w5)(o:bN w5 f (.slice none 0 0) 0 0)(hs:O w4 w5){Rb:Nat}(s:w4.heap.size<=Rb)(r:w5.heap[Rb]? =some (.cells #[E f,E D,V 3, .slice none 0 0,V 0, .string (eP [])] 82 (0,0))):Rd k most w5 Rb [] [] 3 0 [] (fun j=>4<=j/\(j=Rb\/(f<=j/\j<w4.heap.size))):=by
 have c1:=h.rs.f4;have c2:=h.rs.fd;have c3:=h.rs.dD;have c4:=h.rs.DP;have u:=h.rs.PN;have t:=hs.size;have c:Go.dM.ay5 w5 0 4611686018427387904 []:=⟨fun i hi=>by simp at hi,fun i=>by simp,by simp⟩
 refine .inl ⟨rfl,rfl,w4,0,4611686018427387904,0,f,d,D,X,P,F,MJ k most, .slice none 0 0, .slice none 0 0,h.rs,⟨fun a _ _ n=>hs.block a n (fun x=>x),c, .inl (by omega),by omega,p,h.H9.step hs (fun _ x=>x),jJ _ _ _ _,fun _=>rfl,?_,t,fun _=>⟨hs.at_ h.dec (fun x=>x),rfl⟩,fun _=> .inl ⟨hs.at_ h.dec (fun x=>x),rfl,rfl,rfl,rfl⟩,fun j l=>by simp[Value.ownBlock]at l,fun _=>rfl,aS _,aS _,_,hs.at_ h.dec (fun x=>x)⟩,hs.at_ h.wrap (fun x=>x),RV.start k most,rfl,⟨c, .inl (by omega),by omega,fun _=>rfl,aS _, .inr rfl⟩,fun _ _ _ _ _ x=>x,Tw k most h.rs.kk,rfl,rfl,r,s,⟨by omega,by simp[Value.ownBlock],by simp[Value.ownBlock]⟩,fun j=> ?_⟩
 ·show bN w5 f (.slice (bE 0 4611686018427387904 0) 0 0) 0 0;rw[Tv];exact o
 ·have m:∀j,¬(Value.slice none 0 0).ownBlock=some j:=fun j l=>by simp[Value.ownBlock]at l
  constructor
  ·rintro⟨a,b|b⟩
   ·exact⟨a, .inl b⟩
   ·exact⟨a, .inr (.inl b)⟩
  ·rintro⟨a,b|b|b|b|b⟩
   ·exact⟨a, .inl b⟩
   ·exact⟨a, .inr b⟩
   ·omega
   ·exact absurd b (m j)
   ·exact absurd b (m j)
def ZO (k:Nat)(most:Int)(w:aH)(hk:k<=2)(I:bL w)(N:4<=w.heap.size):Calls prog 28 #[V k,V most] w fun r w'=>∃Rb Own,r= .returned (.tuple #[E Rb,V 0])/\Rd k (asked most) w' Rb [] [] 3 0 [] Own/\(∀j,Own j->w.heap.size<=j)/\O w w':=by
 have i:=hide (fun f w3 G H=>aB8 k f (asked most) w3 hk G H);go_enter func28,ntmps28;go_wp2_with fail;apply(wS (.slice none 0 0) w ⟨_,_,_,rfl⟩).mono;rintro M w2 ⟨rfl,b⟩;have s:w2.heap.size=w.heap.size+1:=by rw[b];simp
 have p:O w w2:=by rw[b];exact(aU _ _).alloc _
 have l:bN w2 w.heap.size (.slice none 0 0) 0 0:=by rw[b];exact aR _ _
 clear b;obtain⟨f,z⟩:=aP w.heap.size;rw[<-z]at l|-
 have J:w.heap.size<=f:=by omega
 have m:f<w2.heap.size:=by omega
 have n:4<=f:=by omega
 clear z s;go_wp2_with fail;apply(Ac most w2).mono;rintro C w3 ⟨rfl,rfl⟩;go_wp2_with fail;apply(i.o f w3 n m).mono;rintro C w4 ⟨d,D,X,P,F,rfl,u⟩;have c:=u.step;have L:=c.size;have A:=hide (c.at_ l (fun x=>x));have t:=hide (p.trans c);go_wp2_with fail;go_ret2;have a:=(aU (fun _=>False) w4).alloc (.cells #[E f,E D,V 3, .slice none 0 0,V 0, .string ⟨#[]⟩] 82);refine⟨w4.heap.size,_,rfl,u.live (I.step (t.o.trans a) (fun _ _ x=>x)) (a.at_ A.o (fun x=>x)) a (aS _) (aR _ _),fun j K=> ?_,t.o.trans a⟩;rcases K with⟨_,y|y⟩<;>omega
def Y7 (kind:Int)(most:Int)(w:aH)(n:¬kind=0)(p:¬kind=1)(s:¬kind=2):Calls prog 28 #[V kind,V most] w fun r w'=>r= .returned (.tuple #[.pointer none,V 1])/\O w w':=by
 have a:=hide (fun f w3=>XA kind f (asked most) w3 n p s);go_enter func28,ntmps28;go_wp2_with fail;apply(wS (.slice none 0 0) w ⟨_,_,_,rfl⟩).mono;rintro t w2 ⟨rfl,b⟩;have c:O w w2:=by rw[b];exact(aU _ _).alloc _
 clear b;go_wp2_with fail;apply(Ac most w2).mono;rintro m w3 ⟨rfl,rfl⟩;go_wp2_with fail;apply(a.o _ w3).mono;rintro m w4 ⟨rfl,i⟩;have l:=hide (c.trans i);go_wp2_with fail;go_ret2;exact⟨rfl,l.o⟩
abbrev Ws (w:aH)(Rb:Nat)(a b:Option Addr)(e:Int)(u:Int)(nm:bY):Prop:=w.heap[Rb]? =some (.cells #[.pointer a, .pointer b,V e, .slice none 0 0,V u, .string nm] 82 (0,0))
def Zi (w:aH)(Rb f D:Nat)(l s:Int)(n0 nmb:bY)(t:Option Addr)(len u:Nat)(b:Ws w Rb (some (U f 0)) (some (U D 0)) l s n0)(Q:aH->aH->Prop)(m:∀w1,Step (·=Rb) w w1->Ws w1 Rb (some (U f 0)) (some (U D 0)) 3 0 nmb->Calls prog 65 #[E f] w1 fun r w'=>r= .returned (.tuple #[])/\Q w1 w'):Calls prog 42 #[E Rb, .agg #[V 3, .slice t len u,V 0, .string nmb]] w fun r w'=>r= .returned (.tuple #[])/\∃w1,Step (·=Rb) w w1/\Ws w1 Rb (some (U f 0)) (some (U D 0)) 3 0 nmb/\Q w1 w':=by have I:=aO b;have y:=aC b 0 _ rfl;have c1:=aC b 1 _ rfl;have c2:=aC b 2 _ rfl;have c3:=aC b 3 _ rfl;have c4:=aC b 4 _ rfl;have z:=aC b 5 _ rfl;have A:=aJ b 2;have C:=aJ b 3;have G:=aJ b 4;have H:=aJ b 5;have i:=((((aU (·=Rb) w).setCell (p:=(U Rb 2)) rfl (V 3)).setCell (p:=(U Rb 3)) rfl (.slice none 0 0)).setCell (p:=(U Rb 4)) rfl (V 0)).setCell (p:=(U Rb 5)) rfl (.string nmb);have c:=aV (aV (aV (aV b 2 (V 3)) 3 (.slice none 0 0)) 4 (V 0)) 5 (.string nmb);simp only[Array.set!_eq_setIfInBounds,LM,List.set]at c;have a:=hide (show∀o,Step (·=Rb) w (((((w.setCell (U Rb 2) (V 3)).setCell (U Rb 3) (.slice none 0 0)).setCell (U Rb 4) (V 0)).setCell (U Rb 5) (.string nmb)).alloc o)/\Ws (((((w.setCell (U Rb 2) (V 3)).setCell (U Rb 3) (.slice none 0 0)).setCell (U Rb 4) (V 0)).setCell (U Rb 5) (.string nmb)).alloc o) Rb (some (U f 0)) (some (U D 0)) 3 0 nmb from fun o=>⟨i.alloc o,((aU (fun _=>False) _).alloc o).at_ c (fun x=>x)⟩);go_enter func42,ntmps42;go_wp2_with fail;apply(m _ (a.o _).1 (a.o _).2).mono;rintro r w' ⟨rfl,n⟩;go_wp2_with fail;go_end0;exact⟨rfl,_,(a.o _).1,(a.o _).2,n⟩
def Te (w:aH)(Rb e used:Nat)(a b:Option Addr)(n u:Int)(n0 nmb:bY)(y:Option Addr)(len z:Nat)(s:e≠3)(c:Ws w Rb a b n u n0):Calls prog 42 #[E Rb, .agg #[V e, .slice y len z,V used, .string nmb]] w fun r w'=>r= .returned (.tuple #[])/\Step (·=Rb) w w'/\Ws w' Rb none none (e:Nat) (used:Nat) nmb:=by have L:=aO c;have A:=aC c 0 _ rfl;have c1:=aC c 1 _ rfl;have c2:=aC c 2 _ rfl;have c3:=aC c 3 _ rfl;have c4:=aC c 4 _ rfl;have C:=aC c 5 _ rfl;have G:=aJ c 0;have g1:=aJ c 1;have H:=aJ c 2;have I:=aJ c 3;have J:=aJ c 4;have K:=aJ c 5;have t:((e:Int)==3)=false:=aX.2 (by omega);have l:=((((((aU (·=Rb) w).setCell (p:=(U Rb 2)) rfl (V e)).setCell (p:=(U Rb 3)) rfl (.slice none 0 0)).setCell (p:=(U Rb 4)) rfl (V used)).setCell (p:=(U Rb 5)) rfl (.string nmb)).setCell (p:=(U Rb 0)) rfl (.pointer none)).setCell (p:=(U Rb 1)) rfl (.pointer none);have i:=aV (aV (aV (aV (aV (aV c 2 (V e)) 3 (.slice none 0 0)) 4 (V used)) 5 (.string nmb)) 0 (.pointer none)) 1 (.pointer none);simp only[Array.set!_eq_setIfInBounds,LM,List.set]at i;have m:=hide (aQ l i);clear c s l i;go_enter func42,ntmps42;go_wp2_with fail;go_end0;exact⟨rfl,m.o.1.alloc _,((aU (fun _=>False) _).alloc _).at_ m.o.2 (fun x=>x)⟩
def an5 (w:aH)(Rb e used:Nat)(a b:Option Addr)(nmb:bY)(c:Ws w Rb a b (e:Nat) (used:Nat) nmb):Calls prog 30 #[E Rb] w fun r w'=>r= .returned (.tuple #[.bool (e==0),V used])/\O w w':=by
 have o:=aO c;have c2:=aC c 2 _ rfl;have c4:=aC c 4 _ rfl;clear c;have n:((e:Int)==0)=(e==0):=by
  by_cases i:e=0
  ·subst i;rfl
  ·rw[aX.2 i,aX.2 (by omega)]
 have l:w.cell? (U Rb 2)=some (V e):=c2;have m:w.cell? (U Rb 4)=some (V used):=c4;clear c2 c4;go_enter func30,ntmps30;go_wp2_with fail;go_quiet (fail);all_goals
  go_wp2_with fail;go_ret2;exact⟨rfl,(aU _ _).drewN _⟩
def aj6 (w:aH)(Rb:Nat)(e u:Int)(a b:Option Addr)(nmb:bY)(c:Ws w Rb a b e u nmb):Calls prog 31 #[E Rb] w fun r w'=>r= .returned (.string nmb)/\w'=w:=by have l:=aO c;have i:=aC c 5 _ rfl;clear c;go_enter func31,ntmps31;go_wp2_with fail;go_ret;exact⟨rfl,rfl⟩
variable {k most:Nat} {w:aH} {Rb:Nat} {B pre nm:aD} {Own:Nat->Prop} {w0:aH} {g off cap f d D X P:Nat} {F:Nat->aK} {q:RQ} {lv v:aK}
def LU (w:aH)(j:Nat):Prop:=∃A t,w.heap[j]? =some (.cells A t (0,0))/\t≠125/\t≠116
def LU.b (h:LU w j):CG w j:=by obtain⟨A,t,a,c,_⟩:=h;exact⟨A,t,a,c⟩
structure WrP (k most:Nat)(w:aH)(Rb:Nat)(B pre:aD)(Own:Nat->Prop)(vo:aK)(e:Nat)(ys:aD)(w':aH):Prop where
 row:Taken w' w.heap.size vo ys
 rd:∃used nm Own',Rd k most w' Rb B (pre++ys) e used nm Own'/\(∀j,Own' j->Own j\/w.heap.size<=j)/\(∀j,vo.ownBlock=some j->¬Own' j)
 step:∃S:Nat->Prop,Step S w w'/\∀j,S j->Own j/\LU w j
def EO.added (h:EO k most w Rb B pre nm Own w0 g off cap f d D X P F q lv v){M:aD}{w1:aH}(b:bN w1 f (.slice (bE g1 off1 (B.drop q.z++M).length) (B.drop q.z++M).length cap1) (q.p-8*q.z) q.z)(a:uP w1 w0.heap.size f g1 off1 cap1 (B.drop q.z++M))(l:g1=0\/w.heap.size<=g1)(hs:Step (·=f) w w1):OG k w0 w1 g1 off1 cap1 f d D X (B++M) most q lv v/\gQ w1 D f d (fD P q.i (np k)) (.slice none 0 0) (eP q.nm)/\RV k (B++M) most q/\uP w1 w0.heap.size f g1 off1 cap1 ((B++M).drop q.z)/\Bk k (B++M) most (MJ k most) q:=by
 have c1:=h.rs.f4;have c2:=h.rs.fd;have c3:=h.rs.dD;have n:=h.m.zp;have hh:=h.m.here;have c:(B++M).drop q.z=B.drop q.z++M:=List.drop_append_of_le_length (by omega);rw[<-c]at b a;refine⟨h.m.YE h.rs hs b a l (by rw[aN];omega) n,hs.at_ h.dec (by omega),h.rv.more hh M,a,fun Y e out used name x=> ?_⟩;rw[dB]at x|-
 exact h.bk (M++Y) e out used name x
def WrS (Rb D d f X:Nat)(lv v:aK)(j:Nat):Prop:=j=Rb\/RO D d f X lv v j
def EO.plain (h:EO k most w Rb B pre nm Own w0 g off cap f d D X P F q lv v)(C:WrS Rb D d f X lv v j):Own j/\LU w j:=by
 have c1:=h.rs.f4;have c2:=h.rs.fd;have c3:=h.rs.dD;have c4:=h.rs.DP;have K:=h.rs.PN;have L:=h.m.big;have G:=h.rb;rcases C with rfl|rfl|rfl|rfl|rfl|y|y
 ·exact⟨(h.own _).2 ⟨by omega, .inl rfl⟩,_,_,h.blk,by decide,by decide⟩
 ·exact⟨(h.own _).2 ⟨by omega, .inr (.inl ⟨by omega,by omega⟩)⟩,_,_,h.dec,by decide,by decide⟩
 ·obtain⟨A,u⟩:=h.m.dat;exact⟨(h.own _).2 ⟨by omega, .inr (.inl ⟨by omega,by omega⟩)⟩,A,_,u,by decide,by decide⟩
 ·exact⟨(h.own _).2 ⟨by omega, .inr (.inl ⟨by omega,by omega⟩)⟩,_,_,h.m.feed,by decide,by decide⟩
 ·by_cases o:k=0
  ·rw[h.rs.X0 o];exact⟨(h.own _).2 ⟨by omega, .inr (.inl ⟨by omega,by omega⟩)⟩,_,_,h.dec,by decide,by decide⟩
  ·have:=h.rs.XP o;obtain⟨A,t,H,p⟩:=h.m.H9.blk o;exact⟨(h.own _).2 ⟨by omega, .inr (.inl ⟨by omega,by omega⟩)⟩,A,t,H,by rcases p with rfl|rfl<;>decide,by rcases p with rfl|rfl<;>decide⟩
 ·have s:=h.m.lets.lt j y;refine⟨(h.own _).2 ⟨by omega, .inr (.inr (.inr (.inl y)))⟩,?_⟩;obtain⟨_,⟨b,_⟩|⟨r,c,l,b,_,hh,_⟩⟩:=h.m.lets
  ·rw[b]at y;cases y
  ·rw[b]at y;cases y;exact⟨_,_,hh,by decide,by decide⟩
 ·have s:=h.m.ar8 j y;refine⟨(h.own _).2 ⟨by omega, .inr (.inr (.inr (.inr y)))⟩,?_⟩;have a:v= .slice none 0 0->LU w j:=fun e=>by rw[e]at y;cases y
  by_cases I:q.i<bi k
  ·exact a (h.m.fresh I).2
  ·by_cases J:bi k<q.i
   ·exact a (h.m.behind J)
   ·rcases h.m.inner (by omega)with⟨_,e,_⟩|⟨sr,z,_⟩
    ·exact a e
    ·obtain⟨st,rfl,n,_⟩:=z.ex;obtain⟨_,⟨b,_⟩|⟨r,c,l,b,_,hh,_⟩⟩:=n.dec.own
     ·rw[b]at y;cases y
     ·rw[b]at y;cases y;exact⟨_,_,hh,by decide,by decide⟩
def OG.other {w':aH}(h:OG k w0 w g off cap f d D X B most q lv v)(c:RS k w0 f d D X P F){t:Nat}{A:Array aK}(l:t=96\/t=45)(n:w.heap[j]? =some (.cells A t (0,0)))(b:j=D\/w0.heap.size<=j)(hs:Step (·=j) w w'):OG k w0 w' g off cap f d D X B most q lv v:=by
 have c1:=c.f4;have c2:=c.fd;have c3:=c.dD;have c4:=c.DP;have K:=c.PN;have s:=h.big;have L:=hs.size;have G:t≠128:=by rcases l with rfl|rfl<;>decide
 have H:t≠91:=by rcases l with rfl|rfl<;>decide
 have u:t≠5:=by rcases l with rfl|rfl<;>decide
 have I:t≠125:=by rcases l with rfl|rfl<;>decide
 have J:t≠21:=by rcases l with rfl|rfl<;>decide
 have p:g≠j:=fun e=>by
  rcases h.AA with y|⟨y,r,z⟩
  ·rcases b with b|b<;>omega
  ·rw[e,n]at z;simp only[fH,uK]at z;exact u z.2.1
 have o:d≠j:=by rcases b with b|b<;>omega
 refine⟨fun a a1 a2 m=> ?_,h.src.step hs p,?_,by have:=h.glt;omega,h.order.step hs (fun i hi x=>by rcases b with b|b<;>omega),h.H9.step hs (fun C x=>by have:=c.XP C;rcases b with b|b<;>omega),kH h.lets hs (fun i hi x=>xM h.lets n J (by rw[hi,x])),h.ag1,hs.at_ h.feed (by rcases b with b|b<;>omega),by omega,fun y=>⟨hs.at_ (h.fresh y).1 o,(h.fresh y).2⟩,fun y=> ?_,fun i hi=> ?_,h.behind,h.here,h.zp,h.dat.imp fun A y=>hs.at_ y o⟩
 ·rw[<-h.old a a1 a2 m];exact hs.block a (by omega) (by rcases b with b|b<;>omega)
 ·rcases h.AA with y|⟨y,r,z⟩
  ·exact .inl y
  ·exact .inr ⟨y,r,hs.at_ z p⟩
 ·rcases h.inner y with⟨a1,a2⟩|⟨sr,a1,a2⟩
  ·exact .inl ⟨hs.at_ a1 o,a2⟩
  ·exact .inr ⟨sr,a1.other hs n G H u I p (by rcases b with b|b<;>omega),a2⟩
 ·obtain⟨a1,a2,m⟩:=h.ar8 i hi;exact⟨a1,by omega,m⟩
def Yx (k most:Nat)(w0:aH)(g off cap f d D X P:Nat)(B:aD)(q:RQ)(lv v:aK)(n:Nat)(x:Nat)(vo:aK)(ys:aD)(used:Nat)(nmb:bY)(pt:aK)(w':aH):Prop:=
 ∃nm',nmb=eP nm'/\dV k B most q x (q.pre++ys) used nm'/\((x≠3/\∀Y,dV k (B++Y) most q x (q.pre++ys) used nm')\/
  (x=3/\used=0/\∃q' lv' v',OG k w0 w' g off cap f d D X B most q' lv' v'/\pt=fD P q'.i (np k)/\q'.o=ys/\q'.nm=nm'/\(∀j,lv'.ownBlock=some j\/v'.ownBlock=some j->RO D d f X lv v j\/n<=j)/\Bk k B most q q'/\RV k B most q'/\q'.z=q.z/\q'.pre=q.pre/\Apart vo v'))
def a97 (b:RS k w0 f d D X P F)(s:OG k w0 w g off cap f d D X B most q lv v)(hd:gQ w D f d (fD P q.i (np k)) (.slice none 0 0) (eP q.nm))(hv:RV k B most q)(W:q.o=[])(hB:iR B)(hL:B.length<=8388608)(K:most<=1048576):Calls prog 38 #[E D,E f] w fun r w'=>∃(x:Nat) (vo:aK) (ys:aD) (used:Nat) (nmb:bY) (pt:aK),r= .returned (.agg #[V (x:Nat),vo,V used, .string nmb])/\Taken w' w.heap.size vo ys/\gQ w' D f d pt (.slice none 0 0) nmb/\Step (RO D d f X lv v) w w'/\Yx k most w0 g off cap f d D X P B q lv v w.heap.size x vo ys used nmb pt w':=by
 have c1:=b.f4;have c2:=b.fd;have c3:=b.dD;have c4:=b.DP;have c5:=b.PN;have n:=s.big;have m:∀j,RO D d f X lv v j->j<w.heap.size:=fun j x=>by
  rcases x with x|x|x|x|x|x
  ·omega
  ·omega
  ·omega
  ·by_cases Y:k=0
   ·have:=b.X0 Y;omega
   ·have:=b.XP Y;omega
  ·exact(s.lets.lt j x).2
  ·exact(s.ar8 j x).2.1
 refine aA3 w w0.heap.size w.heap.size f d D (RO D d f X lv v) (Yx k most w0 g off cap f d D X P B q lv v w.heap.size) (by omega) (.inl rfl) m n (fun x vo ys u nmb pt w1 w2 j t A ht hb I hs hk=> ?_) (fun w1 c=> ?_)
 ·obtain⟨a,S,T,H|⟨H,h4,q',l,Q,h5,h6⟩⟩:=hk
  ·exact⟨a,S,T, .inl H⟩
  ·exact⟨a,S,T, .inr ⟨H,h4,q',l,Q,h5.other b ht hb I hs,h6⟩⟩
 ·have J:=s.frame b c (fun _ x=>x.elim);have M:=c.size;refine(Yb (n0:=w.heap.size) b ⟨J,c.at_ hd (fun x=>x),by rw[W];exact jJ _ _ _ _⟩ (fun _=>⟨rfl,W⟩) hv hB hL K M).mono ?_;rintro r w' ⟨x,rfl,parts,vo,N,a,a1,a2,z,⟨rfl,used,b1,b2,R,p⟩|⟨rfl,b1,q',l,Q,b2,R,p,Z,b6,b7,b8,b9,C,G⟩|⟨hx,L,b1⟩⟩
  ·refine⟨0,vo,N,used,eP a,parts,rfl,⟨a1,a2,z,fun y=>absurd rfl y,fun _=>⟨_,_,b1,b2,by omega⟩⟩,a,rfl,?_, .inl ⟨by omega,p⟩⟩;have:=p [];rw[bG]at this;exact this
  ·exact⟨3,vo,N,0,eP a,parts,rfl,⟨a1,a2,z,fun _=>rfl,fun y=>by omega⟩,a,rfl,b1, .inr ⟨rfl,rfl,q',l,Q,b2,R,p,Z,fun j I=>(b6 j I).imp id (fun y=>by omega),b7,b8,b9,C,G⟩⟩
  ·refine⟨x,vo,N,0,eP a,parts,rfl,⟨a1,a2,z,fun _=>rfl,fun y=>absurd y hx⟩,a,rfl,?_, .inl ⟨L,b1⟩⟩;have:=b1 [];rw[bG]at this;exact this
variable {k most:Nat} {w:aH} {Rb:Nat} {B pre nm:aD} {Own:Nat->Prop} {w0:aH} {g off cap f d D X P:Nat} {F:Nat->aK} {q:RQ} {lv v:aK}
def WrP.step0 {w' b:aH}{Rb:Nat}{pre:aD}{Own:Nat->Prop}(h:WrP k most w Rb B pre Own vo e ys w')(hs:O w' b):WrP k most w Rb B pre Own vo e ys b:=by obtain⟨used,nm,a,c,i⟩:=h.rd;obtain⟨S,l,m⟩:=h.step;exact⟨fJ h.row hs (fun _ _ x=>x),⟨used,nm,a,c.frame hs (fun _ x=>x.elim),i⟩,S,l.trans (hs.mono (fun _ x=>x.elim)),m⟩
def FT (k most:Nat)(w:aH)(Rb:Nat)(w0:aH)(g1 off1 cap1 f d D X P:Nat)(B:aD)(q:RQ)(lv v:aK)(nm:aD)(x:Nat)(vo:aK)(ys:aD)(used:Nat)(nmb:bY)(w2:aH):Prop:=
 Taken w2 w.heap.size vo ys/\Ws w2 Rb (some (U f 0)) (some (U D 0)) 3 0 (eP nm)/\Step (RO D d f X lv v) w w2/\∃pt n,gQ w2 D f d pt (.slice none 0 0) nmb/\w.heap.size<=n/\Yx k most w0 g1 off1 cap1 f d D X P B q lv v n x vo ys used nmb pt w2
def FT.step (h:FT k most w Rb w0 g1 off1 cap1 f d D X P B' q lv v nm x vo ys used nmb w2)(s:RS k w0 f d D X P F)(hs:O w2 w3):FT k most w Rb w0 g1 off1 cap1 f d D X P B' q lv v nm x vo ys used nmb w3:=by
 obtain⟨a1,a2,i,pt,n,l,m,a,b1,b2,b|⟨b,o,q',c,t,p,r⟩⟩:=h
 ·exact⟨fJ a1 hs (fun _ _ x=>x),hs.at_ a2 (fun x=>x),i.trans (hs.mono (fun _ x=>x.elim)),pt,n,hs.at_ l (fun x=>x),m,a,b1,b2, .inl b⟩
 ·exact⟨fJ a1 hs (fun _ _ x=>x),hs.at_ a2 (fun x=>x),i.trans (hs.mono (fun _ x=>x.elim)),pt,n,hs.at_ l (fun x=>x),m,a,b1,b2, .inr ⟨b,o,q',c,t,p.frame s hs (fun _ x=>x.elim),r⟩⟩
def FT.other (h:FT k most w Rb w0 g1 off1 cap1 f d D X P B' q lv v nm x vo ys used nmb w2)(c:RS k w0 f d D X P F){A:Array aK}(m:w2.heap[j]? =some (.cells A 45 (0,0)))(K:w.heap.size<=j)(o:w0.heap.size<=j)(hs:Step (·=j) w2 w3):FT k most w Rb w0 g1 off1 cap1 f d D X P B' q lv v nm x vo ys used nmb w3:=by
 have c3:=c.dD;have c4:=c.DP;have J:=c.PN;obtain⟨a1,a2,y,pt,n,r,s,z⟩:=h;have a:Rb≠j:=fun e=>by
  unfold Ws at a2;rw[e,m]at a2;simp only[fH,uK]at a2;exact absurd a2.2.1 (by decide)
 have t:Taken w3 w.heap.size vo ys:=fJ a1 hs (fun i hi e=>kR a1 m (by decide) (by rw[hi,e]));have u:Step (RO D d f X lv v) w w3:=y.trans' hs (fun i hi e=>by omega);obtain⟨b,b1,b2,l|⟨l,C,q',p,I,G,H⟩⟩:=z
 ·exact⟨t,hs.at_ a2 a,u,pt,n,hs.at_ r (by omega),s,b,b1,b2, .inl l⟩
 ·exact⟨t,hs.at_ a2 a,u,pt,n,hs.at_ r (by omega),s,b,b1,b2, .inr ⟨l,C,q',p,I,G.other c (.inr rfl) m (.inr o) hs,H⟩⟩
def FT.store (h:FT k most w Rb w0 g1 off1 cap1 f d D X P B' q lv v nm x vo ys used nmb w2)(o:RS k w0 f d D X P F)(l:w2.heap[j]? =some (.cells #[V 0, .slice none 0 0,V 0, .string ⟨#[]⟩] 45 (0,0)))(m:w.heap.size<=j)(i:w0.heap.size<=j)(a b c e:aK):FT k most w Rb w0 g1 off1 cap1 f d D X P B' q lv v nm x vo ys used nmb ((((w2.setCell (U j 0) a).setCell (U j 1) b).setCell (U j 2) c).setCell (U j 3) e)/\((((w2.setCell (U j 0) a).setCell (U j 1) b).setCell (U j 2) c).setCell (U j 3) e).heap[j]? =some (.cells #[a,b,c,e] 45 (0,0))/\w.heap.size<=j:=by refine⟨h.other o l m i (((((aU (·=j) w2).setCell (p:=(U j 0)) rfl _).setCell (p:=(U j 1)) rfl _).setCell (p:=(U j 2)) rfl _).setCell (p:=(U j 3)) rfl _),?_,m⟩;have n:=aV (aV (aV (aV l 0 a) 1 b) 2 c) 3 e;simpa using n
def FT.no (h:FT k most w Rb w0 g1 off1 cap1 f d D X P B' q lv v nm 3 vo ys used nmb w2):used=0:=by
 obtain⟨_,_,_,_,_,_,_,_,_,_,⟨b,_⟩|⟨_,b,_⟩⟩:=h
 ·exact absurd rfl b
 ·exact b
def EO.aC7 (h:EO k most w Rb B pre nm Own w0 g off cap f d D X P F q lv v)(b:WrS Rb D d f X lv v j):j<w.heap.size:=by obtain⟨_,A,t,a,_⟩:=h.plain b;exact aO a
def ap5 (h:EO k most w Rb B pre nm Own w0 g off cap f d D X P F q lv v)(i:Bk k B' most (MJ k most) q)(r:FT k most w Rb w0 g1 off1 cap1 f d D X P B' q lv v nm x vo ys used nmb w3)(m:x≠3)(hs:Step (·=Rb) w3 w4)(p:Ws w4 Rb none none (x:Nat) (used:Nat) nmb):WrP k most w Rb B' pre Own vo x ys w4:=by
 obtain⟨a1,a2,o,pt,n,t,u,l,b1,b2,⟨_,c⟩|⟨c,_⟩⟩:=r
 ·have c1:=h.rs.f4;have c2:=h.rs.fd;have c3:=h.rs.dD;have c4:=h.rs.DP;have z:=h.rs.PN;have s:=h.rb;have b:vo.ownBlock≠some Rb:=kR a1 a2 (by decide);subst b1;refine⟨fJ a1 hs (fun j a y=>b (by rw[a,y])),⟨used,l,(·=Rb), .inr ⟨p,m,fun Y=> ?_,fun _=>Iff.rfl,by omega⟩,fun j a=> .inl ?_,fun j a y=>b (by rw[a,y])⟩,WrS Rb D d f X lv v,(o.mono (fun j y=> .inr y)).trans (hs.mono (fun j y=> .inl y)),fun j a=>h.plain a⟩
  ·have:=i Y _ _ _ _ (c Y);rw[h.ay7]at this;exact this
  ·exact(h.plain (j:=j) (.inl a)).1
 ·exact absurd c m
def ax1 (h:EO k most w Rb B pre nm Own w0 g off cap f d D X P F q lv v)(I:Bk k B' most (MJ k most) q)(hg:FT k most w Rb w0 g1 off1 cap1 f d D X P B' q lv v nm 3 vo ys used nmb w3)(t:(off1=4611686018427387904->cap1=0)/\(B'.drop q.z).length<=cap1/\(off1=0\/off1=4611686018427387904))(ae:Rb≠g1)(hL:B'.length<=4000000)(hs:Step (·=Rb) w3 w4)(hb:Ws w4 Rb (some (U f 0)) (some (U D 0)) 3 0 nmb):Calls prog 65 #[E f] w4 fun r w'=>r= .returned (.tuple #[])/\WrP k most w Rb B' pre Own vo 3 ys w'/\Step (·=f) w4 w':=by
 obtain⟨a1,a2,a3,pt,n,a4,a5,S,b1,b2,⟨b3,_⟩|⟨_,b4,q',A,v',b5,b6,b7,b8,b9,aa,ab,C,ac,ad⟩⟩:=hg
 ·exact absurd rfl b3
 ·subst b1 b4 b6;have c1:=h.rs.f4;have c2:=h.rs.fd;have c3:=h.rs.dD;have c4:=h.rs.DP;have c5:=h.rs.PN;have ag:=h.rb;have al:=aO h.blk;have aj:=h.m.big;have Q:vo.ownBlock≠some Rb:=kR a1 a2 (by decide);have z3:=a3.size;have z4:=hs.size;have H:¬RO D d f X lv v Rb:=fun y=>by
   rcases y with y|y|y|y|y|y
   ·omega
   ·omega
   ·omega
   ·by_cases e0:k=0
    ·have:=h.rs.X0 e0;omega
    ·have:=h.rs.XP e0;omega
   ·exact h.rbo.2.1 y
   ·exact h.rbo.2.2 y
  have b:∀j,A.ownBlock=some j\/v'.ownBlock=some j->j≠Rb:=fun j a e=>by
   rcases b9 j a with y|y
   ·exact H (by rw[<-e];exact y)
   ·omega
  have c:=b5.frame h.rs hs (fun j a hl=>by
   subst a;exact⟨by omega,fun y=>by omega,ae,fun y=>b _ (.inl y) rfl,fun y=>b _ (.inr y) rfl,_,_,a2,by decide⟩)
  have ah:=c.zp;have af:=c.here;rw[C]at ah;have L:=c.feed;have N:=c.src;rw[C]at L N;have u:uP w4 w0.heap.size f g1 off1 cap1 (B'.drop q.z):=⟨N,c.AA,c.glt,t.1,t.2.1,t.2.2⟩
  have am:(B'.drop q.z).length=B'.length-q.z:=dX;apply(Q6 f g1 off1 cap1 (q'.p-8*q.z) q.z w0.heap.size (B'.drop q.z) w4 L u (by omega) (by omega) (by omega) (by omega) c.big).mono;rintro r w5 ⟨rfl,g5,T,G,d1,d2,Z,s⟩;refine⟨rfl,?_,s⟩;obtain⟨W,R⟩:=aP (q.z+(q'.p-8*q.z)/8);have e1:(B'.drop q.z).drop ((q'.p-8*q.z)/8)=B'.drop W:=by rw[List.drop_drop,R]
  have e2:q'.p-8*q.z-8*((q'.p-8*q.z)/8)=q'.p-8*W:=by omega
  rw[e1,e2,<-R]at d1;rw[e1]at d2;have M:=(c.YE h.rs s d1 d2 Z af (by omega)).flush;have z5:=s.size;have K:gQ w5 D f d (fD P q'.i (np k)) (.slice none 0 0) (eP q'.nm):=by
   rw[b8];exact s.at_ (hs.at_ a4 (by omega)) (by omega)
  have J:Bk k B' most (MJ k most) ({ q' with z:=W }:RQ).flush:=fun Y e out us name y=>by
   rw[Ck,a19]at y;exact I Y e out us name (aa Y e out us name y)
  have l:Taken w5 w.heap.size vo ys:=fJ (fJ a1 hs (fun j a y=>Q (by rw[a,y]))) s (fun j a y=>by have:=(a1.lt j a).1;omega);refine⟨l,⟨0,S,fun j=>4<=j/\(j=Rb\/(f<=j/\j<w0.heap.size)\/j=g5\/A.ownBlock=some j\/v'.ownBlock=some j), .inl ⟨rfl,rfl,w0,g5,T,G,f,d,D,X,P,F,({ q' with z:=W }:RQ).flush,A,v',h.rs,M,K,(ab.at_ W).flush,rfl,d2,J,?_,?_,b8,s.at_ hb (by omega),ag,⟨by rcases Z with y|y<;>omega,fun y=>b _ (.inl y) rfl,fun y=>b _ (.inr y) rfl⟩,fun _=>Iff.rfl⟩,fun j a=> ?_,fun j a y=> ?_⟩,WrS Rb D d f X lv v,((a3.mono (fun j y=> .inr y)).trans (hs.mono (fun j y=> .inl y))).trans (s.mono (fun j y=> .inr (.inr (.inr (.inl y))))),fun j a=>h.plain a⟩
  ·have h9:=I [] 3 (q.pre++ys) 0 S (by rw[bG];exact b2);rw[bG,h.ay7]at h9;exact h9
  ·show q'.pre++q'.o=pre++ys;rw[ac,b7,h.ay7]
  ·obtain⟨j4,y|y|y|y|y⟩:=a
   ·exact .inl (h.plain (j:=j) (.inl y)).1
   ·exact .inl ((h.own j).2 ⟨j4, .inr (.inl y)⟩)
   ·rcases Z with z|z
    ·omega
    ·exact .inr (by omega)
   ·rcases b9 j (.inl y)with z|z
    ·exact .inl (h.plain (j:=j) (.inr z)).1
    ·exact .inr (by omega)
   ·rcases b9 j (.inr y)with z|z
    ·exact .inl (h.plain (j:=j) (.inr z)).1
    ·exact .inr (by omega)
  ·have h1:=a1.lt j a;obtain⟨j4,y|y|y|y|y⟩:=y
   ·exact Q (by rw[a,y])
   ·omega
   ·rcases Z with z|z<;>omega
   ·obtain⟨_,⟨hv,_⟩|⟨g',ai,ak,hv,_,hh,_⟩⟩:=l
    ·rw[hv]at a;cases a
    ·rw[hv]at a;cases a;exact xM M.lets hh (by decide) y
   ·exact ad j a y
def Jv (h:EO k most w Rb B pre nm Own w0 g off cap f d D X P F q lv v)(gm om cm:Nat)(M:aD)(hM:Go.dM.ay5 w gm om M)(ab:om=4611686018427387904->cm=0)(hB:iR (B++M))(hL:(B++M).length<=4000000)(ah:most<=1048576):Calls prog 29 #[E Rb, .slice (bE gm om M.length) M.length cm] w fun r w'=>∃(vo:aK) (e:Nat) (ys:aD),r= .returned (.tuple #[vo,V ((if e=3 then 0 else e:Nat):Int)])/\WrP k most w Rb (B++M) pre Own vo e ys w':=by
 have c1:=h.rs.f4;have c2:=h.rs.fd;have c3:=h.rs.dD;have c4:=h.rs.DP;have c5:=h.rs.PN;have aa:=h.m.big;have au:=h.rb;have al:=h.m.zp;have hh:=h.m.here;have ap:=aO h.blk;have k0:w.cell? (U Rb 0)=some (E f):=aC h.blk 0 _ rfl;have k1:w.cell? (U Rb 1)=some (E D):=aC h.blk 1 _ rfl;have H:(B.drop q.z++M).length<=4000000:=by rw[aN,dX];rw[aN]at hL;omega
 have G:=hide (Hg f g off cap (q.p-8*q.z) q.z gm om cm w0.heap.size (B.drop q.z) M w h.m.feed h.fed hM ab H (by omega) aa);have ae:=hide (show∀w1 g1 off1 cap1,bN w1 f (.slice (bE g1 off1 (B.drop q.z++M).length) (B.drop q.z++M).length cap1) (q.p-8*q.z) q.z->uP w1 w0.heap.size f g1 off1 cap1 (B.drop q.z++M)->(g1=0\/w.heap.size<=g1)->Step (·=f) w w1->Ws w1 Rb (some (U f 0)) (some (U D 0)) 3 0 (eP nm)/\∀W,O w1 W->Calls prog 38 #[E D,E f] W fun r w'=>∃(x:Nat) (i:Option Addr) (len l:Nat) (ys:aD) (used:Nat) (nmb:bY),r= .returned (.agg #[V (x:Nat), .slice i len l,V used, .string nmb])/\FT k most w Rb w0 g1 off1 cap1 f d D X P (B++M) q lv v nm x (.slice i len l) ys used nmb w'/\Step (·<w.heap.size) W w' from fun w1 g1 off1 cap1 hF s hg hs=>by
  obtain⟨a1,a2,a3,a4,a5⟩:=h.added hF s hg hs;have n:=hs.at_ h.blk (by omega);refine⟨n,fun W T=> ?_⟩;apply(a97 h.rs (a1.frame h.rs T (fun _ x=>x.elim)) (T.at_ a2 (fun x=>x)) a3 h.o hB (by omega) ah).mono;rintro r w' ⟨x,vo,ys,used,nmb,pt,rfl,b1,b2,L,b4⟩;obtain⟨i,l,hv⟩:=b1.slice;have z1:=hs.size;have z2:=T.size;refine⟨x,i,ys.length,l,ys,used,nmb,by rw[hv],?_,L.mono (fun j y=>(h.aC7 (.inr y)))⟩;rw[<-hv];have aj:Step (RO D d f X lv v) w w':=((hs.mono (fun j y=> .inr (.inr (.inl y)))).trans (T.mono (fun _ y=>y.elim))).trans L;refine⟨b1.mono (by omega),L.at_ (T.at_ n (fun y=>y)) (fun y=> ?_),aj,pt,W.heap.size,b2,by omega,b4⟩;rcases y with y|y|y|y|y|y
  ·omega
  ·omega
  ·omega
  ·by_cases e0:k=0
   ·have:=h.rs.X0 e0;omega
   ·have:=h.rs.XP e0;omega
  ·exact h.rbo.2.1 y
  ·exact h.rbo.2.2 y)
 have ad:=hide (show∀w1 g1 off1 cap1,bN w1 f (.slice (bE g1 off1 (B.drop q.z++M).length) (B.drop q.z++M).length cap1) (q.p-8*q.z) q.z->uP w1 w0.heap.size f g1 off1 cap1 (B.drop q.z++M)->(g1=0\/w.heap.size<=g1)->Step (·=f) w w1->Bk k (B++M) most (MJ k most) q/\((off1=4611686018427387904->cap1=0)/\((B++M).drop q.z).length<=cap1/\(off1=0\/off1=4611686018427387904))/\Rb≠g1 from fun w1 g1 off1 cap1 hF s hg hs=>by
  obtain⟨_,_,_,a4,a5⟩:=h.added hF s hg hs;exact⟨a5,⟨a4.aF4,a4.le,a4.aH1⟩,by rcases hg with y|y<;>omega⟩)
 have HH:=hide h;have HL:=hide hL;obtain⟨am,Y⟩:=aP (bE gm om M.length);obtain⟨ax,I⟩:=aP M.length;rw[<-Y,<-I]at G|-
 clear h hB hL H hM ab al hh Y I;go_enter func29,ntmps29;go_wp2_with fail;apply G.o.mono;rintro r w1 ⟨rfl,g1,off1,cap1,S,t,ac,J⟩;obtain⟨n,ag⟩:=ae.o w1 g1 off1 cap1 S t ac J;have HB:=hide (ad.o w1 g1 off1 cap1 S t ac J);have q0:w1.cell? (U Rb 0)=some (E f):=aC n 0 _ rfl;have q1:w1.cell? (U Rb 1)=some (E D):=aC n 1 _ rfl;have HG:=hide ag;have av:=J.size;have an:Rb<w1.heap.size:=by omega
 go_upto_region 4 with fail;go_cut [6,31] (fun p r wc=>∃(R1 x:Nat) (i:Option Addr) (len l:Nat) (ys:aD) (used:Nat) (nmb:bY),p=(E R1)/\r= .agg #[V (x:Nat), .slice i len l,V used, .string nmb]/\FT k most w Rb w0 g1 off1 cap1 f d D X P (B++M) q lv v nm x (.slice i len l) ys used nmb wc/\wc.heap[R1]? =some (.cells #[V (x:Nat), .slice i len l,V used, .string nmb] 45 (0,0))/\w.heap.size<=R1);case first=>
  go_region_with
   (first
    |(go_at_call 38;apply(HG.o _ ((aU (fun _=>False) w1).drew)).mono;rintro e w2 ⟨x,i,len,l,ys,used,nmb,rfl,b,K⟩;have aw:w1.heap.size<=w2.heap.size:=K.size)
    |(go_at_call 38;apply(HG.o _ (((aU (fun _=>False) w1).alloc _).drew)).mono;rintro e w2 ⟨x,i,len,l,ys,used,nmb,rfl,b,K⟩;have a:=(K.at_ (show(w1.alloc (.cells #[V 0, .slice none 0 0,V 0, .string ⟨#[]⟩] 45)).drew.heap[w1.heap.size]? =some _ from aR _ _) (by omega));have ak:=aO a;have y0:=aC a 0 _ rfl;have y1:=aC a 1 _ rfl;have y2:=aC a 2 _ rfl;have y3:=aC a 3 _ rfl;have x0:=aJ a 0;have x1:=aJ a 1;have x2:=aJ a 2;have x3:=aJ a 3))
  all_goals
   go_wp2_with fail;go_meet
  all_goals
   first
   |exact⟨w2.heap.size,x,i,len,l,ys,used,nmb,rfl,rfl,b.step HH.o.rs ((aU (fun _=>False) w2).alloc _),aR _ _,by omega⟩
   |exact⟨w1.heap.size,x,i,len,l,ys,used,nmb,rfl,rfl,b.store HH.o.rs a (by omega) (by omega) _ _ _ _⟩
 case rest=>
  obtain⟨R1,x,i,len,l,ys,used,nmb,rfl,rfl,b,a,ao⟩:=hcut;obtain⟨w3,h⟩:=aP wc;subst h;have ak:=aO a;have z0:=aC a 0 _ rfl;have z1:=aC a 1 _ rfl;have z2:=aC a 2 _ rfl;have z3:=aC a 3 _ rfl;by_cases hx:x=3
  ·subst hx;have hu:=b.no;subst hu;obtain⟨b1,b2,L⟩:=HB.o;have af:=hide (Zi w3 Rb f D 3 0 (eP nm) nmb i len l b.2.1 (fun w4 w'=>WrP k most w Rb (B++M) pre Own (.slice i len l) 3 ys w'/\Step (·=f) w4 w') (fun w4 hs hb=>ax1 HH.o b1 b b2 L HL.o hs hb));have A:=hide a;clear b a b1 b2 L HG HB;go_wp2_with fail;apply af.o.mono;rintro r w5 ⟨rfl,w4,ai,aq,C,u⟩;have c:=u.at_ (ai.at_ A.o (by omega)) (by omega);have y0:=aC c 0 _ rfl;have y1:=aC c 1 _ rfl;have HW:=hide C;go_wp2_with fail;go_ret2;exact⟨_,3,ys,rfl,HW.o⟩
  ·obtain⟨b1,_⟩:=HB.o;have R:=hide (Te w3 Rb x used _ _ 3 0 (eP nm) nmb i len l hx b.2.1);have N:=hide b;have A:=hide a;have Q:=hide b1;have ar:((x:Int)==3)=false:=aX.2 (by omega);go_wp2_with fail;apply R.o.mono;rintro r w5 ⟨rfl,u,Z⟩;have C:=ap5 HH.o Q.o N.o hx u Z;have c:=u.at_ A.o (by omega);have y0:=aC c 0 _ rfl;have y1:=aC c 1 _ rfl;have HW:=hide C;clear C u Z R z0 z1 z2 z3 A c N Q;go_wp2_with fail;go_quiet (fail);all_goals
    go_wp2_with fail;go_ret2;refine⟨_,x,ys,?_,HW.o.step0 ((aU (fun _=>False) _).drewN _)⟩;rw[aB hx];rfl
def Md (h:as7 k most w Rb B pre e used nm Own)(i:Option Addr)(n l:Nat)(M:aD):Calls prog 29 #[E Rb, .slice i n l] w fun r w'=>∃(vo:aK) (e:Nat) (ys:aD),r= .returned (.tuple #[vo,V ((if e=3 then 0 else e:Nat):Int)])/\WrP k most w Rb (B++M) pre Own vo e ys w':=by
 have k1:w.cell? (U Rb 1)=some (.pointer none):=aC h.blk 1 _ rfl;have k2:w.cell? (U Rb 2)=some (V e):=aC h.blk 2 _ rfl;have m:=aO h.blk;have a:=hide (show WrP k most w Rb (B++M) pre Own (.slice none 0 0) e [] w from by
  refine⟨jJ _ _ _ _,⟨used,nm,Own, .inr ⟨h.blk,h.e3,fun Y=> ?_,h.own,h.rb4⟩,fun j c=> .inl c,fun j c=>by simp[Value.ownBlock]at c⟩,fun _=>False,aU _ _,fun _ x=>x.elim⟩;rw[bG,dB];exact h.all (M++Y))
 have b:=h.e3;clear h;go_enter func29,ntmps29;go_wp2_with fail;go_quiet (fail);all_goals
  go_wp2_with fail;go_ret2;refine⟨_,e,[],?_,a.o.step0 ((aU (fun _=>False) _).drewN _)⟩;rw[aB b];rfl
def ac7 (h:Rd k most w Rb B pre e used nm Own)(c a b:Nat)(M:aD)(o:Go.dM.ay5 w c a M)(i:a=4611686018427387904->b=0)(m:iR (B++M))(n:(B++M).length<=4000000)(l:most<=1048576):Calls prog 29 #[E Rb, .slice (bE c a M.length) M.length b] w fun r w'=>∃(vo:aK) (e:Nat) (ys:aD),r= .returned (.tuple #[vo,V ((if e=3 then 0 else e:Nat):Int)])/\WrP k most w Rb (B++M) pre Own vo e ys w':=by
 rcases h with⟨rfl,rfl,w0,g,off,cap,f,d,D,X,P,F,q,lv,v,h⟩|h
 ·exact Jv h c a b M o i m n l
 ·exact Md h _ _ _ M
end Go.Proofs.YtbpahojchgpdnaaGreatDoor
namespace Go.dM
open Go Go.RowKit Go.Proofs.YtbpahojchgpdnaaGreatDoor
variable {cap1 e g1 j k most off1 used x:Nat} {w w2 w3 w4:aH} {B B' name out ys:aD} {vo:aK} {nmb:bY}
def TK {n:Nat}{s:GS}{q:Nat}(h:eZ B n s e out q):∀{l i:Nat} {a:aD} {q':Nat},eZ B l s i a q'->e=i/\out=a/\q=q':=by
 induction h with
 |done s h=>
  intro l i a q' c;cases c with
  |done _ _=>exact⟨rfl,rfl,rfl⟩
  |no _ _ _ b _=>exact absurd h b
  |miss _ b _=>exact absurd h b
  |go _ _ _ _ _ _ b _ _=>exact absurd h b
 |no s e out b h=>
  intro l i a q' c;cases c with
  |done _ x=>exact absurd x b
  |no _ _ _ _ x=>rw[h]at x;cases x;exact⟨rfl,rfl,rfl⟩
  |miss _ _ x=>rw[h]at x;cases x
  |go _ _ _ _ _ _ _ x _=>rw[h]at x;cases x
 |miss s b h=>
  intro l i a q' c;cases c with
  |done _ x=>exact absurd x b
  |no _ _ _ _ x=>rw[h]at x;cases x
  |miss _ _ _=>exact⟨rfl,rfl,rfl⟩
  |go _ _ _ _ _ _ _ x _=>rw[h]at x;cases x
 |go n s o e out q b h k ih=>
  intro l i a q' c;cases c with
  |done _ x=>exact absurd x b
  |no _ _ _ _ x=>rw[h]at x;cases x
  |miss _ _ x=>rw[h]at x;cases x
  |go _ _ _ _ _ _ _ x m=>rw[h]at x;cases x;exact ih m
end Go.dM
namespace Go.Proofs.YtbpahojchgpdnaaGreatDoor
open Go.RowKit Go.dM Go.Maps Go.Proofs.Tryz
variable {cap1 e g1 j k most off1 used x:Nat} {w w2 w3 w4:aH} {B B' name out ys:aD} {vo:aK} {nmb:bY}
def Uw {p q:Nat}{l:aD}{ok:Bool}(h:lI B p l ok q):∀{q':Nat} {c:aD} {a:Bool},lI B p c a q'->l=c/\ok=a/\q=q':=by
 induction h with
 |miss p h=>
  intro q' c a b;cases b with
  |miss _ _=>exact⟨rfl,rfl,rfl⟩
  |zero _ x _=>omega
  |more _ _ _ _ x _ _=>omega
 |zero p h i=>
  intro q' c a b;cases b with
  |miss _ _=>omega
  |zero _ x _=>exact⟨rfl,rfl,rfl⟩
  |more _ _ _ _ x y _=>exact absurd i y
 |more p l ok q h i m ih=>
  intro q' c a b;cases b with
  |miss _ _=>omega
  |zero _ x y=>exact absurd y i
  |more _ _ _ _ x y k=>
   obtain⟨rfl,rfl,rfl⟩:=ih k;exact⟨rfl,rfl,rfl⟩
def Uq (K:Nat->aD->Nat->aD->Prop):Prop:=∀e o u n e' o' u' n',K e o u n->K e' o' u' n'->e=e'/\o=o'/\u=u'/\n=n'
def wC (x:Nat)(nm:aD):Uq (qI x nm):=by rintro e o u n a c i b ⟨rfl,rfl,rfl,rfl⟩ ⟨rfl,rfl,rfl,rfl⟩;exact⟨rfl,rfl,rfl,rfl⟩
def qC {c:Prop}[Decidable c]{K L:Nat->aD->Nat->aD->Prop}(l:Uq K)(m:Uq L):Uq (fun e o u n=>if c then K e o u n else L e o u n):=fun e o u n p s t r a b=>by
 by_cases i:c
 ·simp only[aA i]at a b;exact l _ _ _ _ _ _ _ _ a b
 ·simp only[aB i]at a b;exact m _ _ _ _ _ _ _ _ a b
def Np (x:Nat)(o:aD)(y:Nat)(nm:aD):Uq (fun e out used name=>e=x/\out=o/\used=y/\name=nm):=by rintro e o u n a c i b ⟨rfl,rfl,rfl,rfl⟩ ⟨rfl,rfl,rfl,rfl⟩;exact⟨rfl,rfl,rfl,rfl⟩
def aq2 (B:aD)(q:Nat)(o nm:aD):Uq (BZ B q o nm):=by
 rintro e out u n m l r p ⟨a1,a2,a⟩ ⟨b1,b2,b⟩;by_cases c:q+32<=8*B.length
 ·rw[aA c]at a b;by_cases i:aG B q 32=o.length
  ·rw[aA i]at a b;exact⟨a.1.trans b.1.symm,a1.trans b1.symm,a.2.trans b.2.symm,a2.trans b2.symm⟩
  ·rw[aB i]at a b;exact⟨a.1.trans b.1.symm,a1.trans b1.symm,a.2.trans b.2.symm,a2.trans b2.symm⟩
 ·rw[aB c]at a b;exact⟨a.1.trans b.1.symm,a1.trans b1.symm,a.2.trans b.2.symm,a2.trans b2.symm⟩
def ai5 (B:aD)(q:Nat)(o nm:aD):Uq (pF B q o nm):=qC (qC (aq2 _ _ _ _) (Np _ _ _ _)) (Np _ _ _ _)
def av5 {s:GS}{T:Nat->aD->Nat->aD->Nat->aD->Prop}{nm:aD}(r:∀q o,Uq (T q o)):Uq (fun e out used name=>∃n c o1 l,eZ B n s c o1 l/\if c=0 then T l o1 e out used name else e=c/\out=o1/\used=0/\name=nm):=by
 rintro e o u n y G I C ⟨m,c,o1,l,t,a⟩ ⟨A,z,o2,H,i,b⟩;obtain⟨rfl,rfl,rfl⟩:=TK t i;by_cases p:c=0
 ·rw[aA p]at a b;exact r _ _ _ _ _ _ _ _ _ _ a b
 ·rw[aB p]at a b;exact Np _ _ _ _ _ _ _ _ _ _ _ _ a b
def Qg (B:aD)(most p:Nat)(nm:aD):Uq (rY B most p nm):=av5 (fun q o=>ai5 B q o nm)
def Gm (B:aD)(most fl p:Nat)(nm:aD):Uq (jG B most fl p nm):=qC (qC (qC (Qg _ _ _ _) (wC _ _)) (wC _ _)) (Qg _ _ _ _)
def Qp {p:Nat}{T:aD->Nat->Nat->aD->Nat->aD->Prop}{L:Nat->aD->Nat->aD->Prop}(i:∀l q,Uq (T l q))(m:Uq L):Uq (fun e out used name=>∃l ok q,lI B p l ok q/\if ok=true then T l q e out used name else L e out used name):=by
 rintro e o u n t A C z ⟨l,ok,q,r,a⟩ ⟨y,s,q',c,b⟩;obtain⟨rfl,rfl,rfl⟩:=Uw r c;by_cases hk:ok=true
 ·rw[aA hk]at a b;exact i _ _ _ _ _ _ _ _ _ _ a b
 ·rw[aB hk]at a b;exact m _ _ _ _ _ _ _ _ a b
def WO (B:aD)(most fl p:Nat)(nm:aD):Uq (gX B most fl p nm):=qC (Qp (fun _ _=>Gm _ _ _ _ _) (wC _ _)) (Gm _ _ _ _ _)
def YH (B:aD)(most fl p:Nat)(a:aD):Uq (jW B most fl p a):=qC (Qp (fun _ _=>WO _ _ _ _ _) (wC _ _)) (WO _ _ _ _ _)
def ap4 (B:aD)(most fl p left:Nat):Uq (nV B most fl p left):=qC (qC (YH _ _ _ _ _) (wC _ _)) (YH _ _ _ _ _)
def ab4 (B:aD)(most fl p:Nat):Uq (kT B most fl p):=qC (qC (ap4 _ _ _ _ _) (wC _ _)) (YH _ _ _ _ _)
def ae6 (B:aD)(most p:Nat):Uq (jU B most p):=qC (qC (qC (ab4 _ _ _ _) (wC _ _)) (wC _ _)) (wC _ _)
def aA2 (B:aD)(most:Nat):Uq (xA B most):=qC (qC (qC (qC (qC (qC (ae6 _ _ _) (wC _ _)) (wC _ _)) (wC _ _)) (wC _ _)) (wC _ _)) (wC _ _)
def aD7 (B:aD)(most:Nat):Uq (fun e out used name=>xO B most e out used/\name=[]):=by
 have c:∀x:Nat,Uq (fun e out used name=>(e=x/\out=[]/\used=0)/\name=[]):=fun x=>by
  rintro e o u n C J K I ⟨⟨rfl,rfl,rfl⟩,rfl⟩ ⟨⟨rfl,rfl,rfl⟩,rfl⟩;exact⟨rfl,rfl,rfl,rfl⟩
 rintro e o u n C J K I ⟨a,rfl⟩ ⟨b,rfl⟩;unfold xO UK at a b;by_cases l:0+8<=8*B.length
 ·rw[aA l]at a b;by_cases p:vT (aG B 0 8)
  ·rw[aA p]at a b;by_cases r:0+8+8<=8*B.length
   ·rw[aA r]at a b;by_cases s:zC (aG B 0 8) (aG B (0+8) 8)
    ·rw[aA s]at a b;obtain⟨m,G,o1,A,H,a⟩:=a;obtain⟨M,L,o2,N,i,b⟩:=b;obtain⟨rfl,rfl,rfl⟩:=TK H i;by_cases z:G=0
     ·rw[aA z]at a b;obtain⟨a1,a⟩:=a;obtain⟨b1,b⟩:=b;by_cases t:A+32<=8*B.length
      ·rw[aA t]at a b;by_cases y:jB B A 4=dZ 1 o1
       ·rw[aA y]at a b;exact⟨a.1.trans b.1.symm,a1.trans b1.symm,a.2.trans b.2.symm,rfl⟩
       ·rw[aB y]at a b;exact⟨a.1.trans b.1.symm,a1.trans b1.symm,a.2.trans b.2.symm,rfl⟩
      ·rw[aB t]at a b;exact⟨a.1.trans b.1.symm,a1.trans b1.symm,a.2.trans b.2.symm,rfl⟩
     ·rw[aB z]at a b;exact⟨a.1.trans b.1.symm,a.2.1.trans b.2.1.symm,a.2.2.trans b.2.2.symm,rfl⟩
    ·rw[aB s]at a b;exact c 4 _ _ _ _ _ _ _ _ ⟨a,rfl⟩ ⟨b,rfl⟩
   ·rw[aB r]at a b;exact c 3 _ _ _ _ _ _ _ _ ⟨a,rfl⟩ ⟨b,rfl⟩
  ·rw[aB p]at a b;exact c 4 _ _ _ _ _ _ _ _ ⟨a,rfl⟩ ⟨b,rfl⟩
 ·rw[aB l]at a b;exact c 3 _ _ _ _ _ _ _ _ ⟨a,rfl⟩ ⟨b,rfl⟩
def ae4:xV 0 B most e out used name=at5 0 B (qJ most 0) [] e out used name:=by unfold xV dV;rw[aA (show(MJ 0 most).i=bi 0 from rfl)];rfl
def Yd:xV 1 B most e out used name=(((0:Nat)=0/\xO B most e out used)/\name=[]):=by unfold xV dV;rw[aB (show¬(MJ 1 most).i=bi 1 from(by decide:¬(0:Nat)=bi 1)),aB (by omega),aA rfl];rfl
def Yi:xV 2 B most e out used name=((0:Nat)=0/\xA B most e out used name):=by unfold xV;rw[ZF rfl];rfl
def Xu (hk:k<=2)(B:aD)(most:Nat):Uq (xV k B most):=by
 have p:k=0\/k=1\/k=2:=by omega
 rintro e o u n s A H z a b;rcases p with rfl|rfl|rfl
 ·rw[ae4]at a b;obtain⟨m,l,o1,C,r,a⟩:=a;obtain⟨y,t,o2,G,c,b⟩:=b;obtain⟨rfl,rfl,rfl⟩:=TK r c;unfold TL at a b;by_cases i:l=0
  ·rw[aA i,aA rfl]at a b;exact⟨a.1.trans b.1.symm,a.2.1.trans b.2.1.symm,by omega,a.2.2.2.trans b.2.2.2.symm⟩
  ·rw[aB i]at a b;exact⟨a.1.trans b.1.symm,a.2.1.trans b.2.1.symm,a.2.2.1.trans b.2.2.1.symm,a.2.2.2.trans b.2.2.2.symm⟩
 ·rw[Yd]at a b;exact aD7 B most _ _ _ _ _ _ _ _ ⟨a.1.2,a.2⟩ ⟨b.1.2,b.2⟩
 ·rw[Yi]at a b;exact aA2 B most _ _ _ _ _ _ _ _ a.2 b.2
def Xi.start {f d D X P:Nat}{F:Nat->aK}(h:Xi k most w w4 f d D X P F){g off cap:Nat}(c:bL w4)(i:Go.dM.ay5 w4 g off B)(l:g<f)(b:bN w4 f (.slice (bE g off B.length) B.length cap) 0 0):OG k w4 w4 g off cap f d D X B most (MJ k most) (.slice none 0 0) (.slice none 0 0):=by have c1:=h.rs.f4;have c2:=h.rs.fd;have c3:=h.rs.dD;have c4:=h.rs.DP;have o:=h.rs.PN;exact⟨fun a _ _ n=>rfl,i, .inl l,by omega,c,h.H9,jJ _ _ _ _,fun _=>rfl,b,aS _,fun _=>⟨h.dec,rfl⟩,fun _=> .inl ⟨h.dec,rfl,rfl,rfl,rfl⟩,fun j m=>by simp[Value.ownBlock]at m,fun _=>rfl,iZ _,aS _,_,h.dec⟩
def ag4 (k g off cap:Nat)(most:Int)(B:aD)(w:aH)(hk:k<=2)(hS:Go.dM.ay5 w g off B)(hg:g<w.heap.size)(hO:bL w)(h4:4<=w.heap.size)(hB:iR B)(hL:B.length<=8388608):Calls prog 25 #[V (k:Nat), .slice (bE g off B.length) B.length cap,V most] w fun r w'=>∃(e:Nat) (out:aD) (used:Nat) (nm:aD) (v':aK),r= .returned (.agg #[V e,v',V used, .string (eP nm)])/\xV k B (asked most) e out used nm/\w'.ownsRow w.heap.size 5 1 v' out.length (jR out)/\O w w':=by
 have ac:=hS.much;have u:=hide (fun f w3 h1 h2=>aB8 k f (asked most) w3 hk h1 h2);have HS:=hide hS;have HO:=hide hO;clear hS hO;go_enter func25,ntmps25;go_wp2_with fail;obtain⟨R,Y⟩:=aP w.heap.size;obtain⟨w1,l⟩:=aP (w.alloc (.cells #[V 0, .slice none 0 0,V 0, .string ⟨#[]⟩] 45));have ae:O w w1:=by rw[l];exact(aU _ _).alloc _
 have I:w1.heap.size=R+1:=by rw[l,Y];simp
 have ad:w1.heap[R]? =some (.cells #[V 0, .slice none 0 0,V 0, .string ⟨#[]⟩] 45 (0,0)):=by rw[l,Y];exact aR _ _
 have aj:w.heap.size<=R:=by omega
 have ai:R<=w.heap.size:=by omega
 rw[<-l,<-Y];clear l Y;apply(wS (.slice (bE g off B.length) B.length cap) w1 ⟨_,_,_,rfl⟩).mono;rintro e1 w2 ⟨rfl,t⟩;rw[I];have al:w2.heap.size=R+1+1:=by rw[t];simp[I]
 have W:O w1 w2:=by rw[t];exact(aU _ _).alloc _
 have L:w2.heap[R+1]? =some (.cells #[.slice (bE g off B.length) B.length cap,V ((0:Nat):Int),V ((0:Nat):Int)] 91 (0,0)):=by rw[t,<-I];exact aR _ _
 clear t;go_wp2_with fail;apply(Ac most w2).mono;rintro e2 w3 ⟨rfl,rfl⟩;have T:=ae.trans W;have HN:=hide (u.o (R+1) w3 (by omega) (by omega));have Z:=hide L;clear L u;go_wp2_with fail;apply HN.o.mono;rintro e2 w4 ⟨d,D,X,P,F,rfl,m⟩;have n:=m.step;have am:=n.size;have c:=T.trans n;have Q:=(W.trans n).at_ ad (fun x=>x);have ah:=m.low;have K:=hide (show Calls prog 38 #[E D, .pointer (some ⟨R+1,0,none⟩)] w4 fun r w5=>∃(x:Nat) (vo:aK) (ys:aD) (used:Nat) (nm:aD),r= .returned (.agg #[V (x:Nat),vo,V used, .string (eP nm)])/\Taken w5 w4.heap.size vo ys/\Step (fun j=>R+1<=j) w4 w5/\xV k B (asked most) x ys used nm from by
  have c2:=m.rs.fd;have c3:=m.rs.dD;have c4:=m.rs.DP;have S:RV k ([]++B) (asked most) (MJ k (asked most)):=(RV.start k (asked most)).more (iZ _) B;rw[iO]at S;apply(a97 m.rs (m.start (HO.o.step c (fun _ _ x=>x)) (HS.o.step c (fun x=>x)) (by omega) (n.at_ Z.o (fun x=>x))) m.wrap S rfl hB hL (vW most)).mono;rintro r w5 ⟨x,vo,ys,used,nmb,pt,rfl,a1,_,a3,af,rfl,a5,_⟩;refine⟨x,vo,ys,used,af,rfl,a1,a3.mono (fun j hj=> ?_),a5⟩;rcases hj with y|y|y|y|y|y
  ·omega
  ·omega
  ·omega
  ·by_cases k0:k=0
   ·have:=m.rs.X0 k0;omega
   ·have:=m.rs.XP k0;omega
  ·simp[Value.ownBlock]at y
  ·simp[Value.ownBlock]at y)
 have z:=hide c;go_wp2_with fail;apply K.o.mono;rintro r w5 ⟨e,vo,out,used,nm,rfl,s,i,A⟩;obtain⟨va,vc,hv⟩:=s.slice;have a:=i.at_ Q (by omega);have q0:w5.cell? (U R 0)=some (V 0):=aC a 0 _ rfl;have q1:w5.cell? (U R 1)=some (.slice none 0 0):=aC a 1 _ rfl;have q2:w5.cell? (U R 2)=some (V 0):=aC a 2 _ rfl;have q3:w5.cell? (U R 3)=some (.string ⟨#[]⟩):=aC a 3 _ rfl;have g0:=aJ a 0;have g1:=aJ a 1;have g2:=aJ a 2;have g3:=aJ a 3;have ak:=aO a;have N:vo.ownBlock≠some R:=kR s a (by decide);have G:=hide N;have H:=hide s;have J:=hide A;have ab:=hide (show O w w5 from z.o.trans' i (fun k hk x=>by omega));rw[hv]at H G;rw[hv];obtain⟨len,b⟩:=aP out.length;have ag:=hide b;rw[<-b]at H G|-
 clear s i hv N Q a K z A b;generalize M:eP nm=nmb;have aa:=hide M;clear M;go_wp2_with fail
 have C:Step (·=R) w5 ((((w5.setCell (U R 0) (V e)).setCell (U R 1) (.slice va len vc)).setCell (U R 2) (V used)).setCell (U R 3) (.string nmb)):=
  ((((aU (·=R) w5).setCell (p:=(U R 0)) rfl _).setCell (p:=(U R 1)) rfl _).setCell (p:=(U R 2)) rfl _).setCell (p:=(U R 3)) rfl _
 refine aY (v:= .agg #[V e, .slice va len vc,V used, .string nmb]) (by simp[results,results25,go_sem,q0,q1,q2,q3]) rfl ⟨e,out,used,nm, .slice va len vc,by rw[aa.o],J.o,?_,?_⟩
 ·exact bH (fJ H.o C (fun j hj x=>G.o (by rw[hj,x]))) (by omega)
 ·exact ab.o.trans' C (fun k hk x=>by omega)
end Go.Proofs.YtbpahojchgpdnaaGreatDoor
