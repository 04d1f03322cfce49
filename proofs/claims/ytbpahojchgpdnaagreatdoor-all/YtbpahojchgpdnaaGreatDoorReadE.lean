import Derived.Test.YtbpahojchgpdnaaGreatDoorReadD
set_option maxRecDepth 20000
set_option maxHeartbeats 4000000
set_option linter.all false
namespace Go.Proofs.YtbpahojchgpdnaaGreatDoor
open Go.RowKit Go.dM Go.Maps Go.Proofs.Tryz
variable {cap1 e g1 j k most off1 used x:Nat} {w w2 w3 w4:aH} {B B' name out ys:aD} {vo:aK} {nmb:bY}
def MJ (k most:Nat):RQ:=⟨0,0,0,0,6,0,if k=1 then 1 else 0,0,[],[],[],[],qJ most 0⟩
def xV (k:Nat)(B:aD)(most e:Nat)(out:aD)(used:Nat)(name:aD):Prop:=dV k B most (MJ k most) e out used name
structure EO (k most:Nat)(w:aH)(Rb:Nat)(B pre nm:aD)(Own:Nat->Prop)(w0:aH)(g off cap f d D X P:Nat)(F:Nat->aK)(q:RQ)(lv v:aK):Prop where
 rs:RS k w0 f d D X P F
 m:OG k w0 w g off cap f d D X B most q lv v
 dec:gQ w D f d (fD P q.i (np k)) (.slice none 0 0) (eP q.nm)
 rv:RV k B most q
 o:q.o=[]
 fed:uP w w0.heap.size f g off cap (B.drop q.z)
 bk:Bk k B most (MJ k most) q
 now:xV k B most 3 pre 0 nm
 ay7:q.pre=pre
 enm:q.nm=nm
 blk:w.heap[Rb]? =some (.cells #[E f,E D,V 3, .slice none 0 0,V 0, .string (eP nm)] 82 (0,0))
 rb:w0.heap.size<=Rb
 rbo:Rb≠g/\lv.ownBlock≠some Rb/\v.ownBlock≠some Rb
 own:∀j,Own j↔4<=j/\(j=Rb\/(f<=j/\j<w0.heap.size)\/j=g\/lv.ownBlock=some j\/v.ownBlock=some j)
structure as7 (k most:Nat)(w:aH)(Rb:Nat)(B pre:aD)(e used:Nat)(nm:aD)(Own:Nat->Prop):Prop where
 blk:w.heap[Rb]? =some (.cells #[.pointer none, .pointer none,V (e:Nat), .slice none 0 0,V (used:Nat), .string (eP nm)] 82 (0,0))
 e3:e≠3
 all:∀Y,xV k (B++Y) most e pre used nm
 own:∀j,Own j↔j=Rb
 rb4:4<=Rb
def Rd (k most:Nat)(w:aH)(Rb:Nat)(B pre:aD)(e used:Nat)(nm:aD)(Own:Nat->Prop):Prop:=
 (e=3/\used=0/\∃w0 g off cap f d D X P F q lv v,EO k most w Rb B pre nm Own w0 g off cap f d D X P F q lv v)\/as7 k most w Rb B pre e used nm Own
variable {k most:Nat} {w w':aH} {Rb:Nat} {B pre:aD} {e used:Nat} {nm:aD} {Own:Nat->Prop}
def Rd.answer (h:Rd k most w Rb B pre e used nm Own):xV k B most e pre used nm:=by
 rcases h with⟨rfl,rfl,_,_,_,_,_,_,_,_,_,_,_,_,_,h⟩|h
 ·exact h.now
 ·have:=h.all [];rw[bG]at this;exact this
def Rd.blk (h:Rd k most w Rb B pre e used nm Own):∃a b,w.heap[Rb]? =some (.cells #[.pointer a, .pointer b,V e, .slice none 0 0,V used, .string (eP nm)] 82 (0,0)):=by
 rcases h with⟨rfl,rfl,_,_,_,_,_,_,_,_,_,_,_,_,_,h⟩|h
 ·exact⟨_,_,h.blk⟩
 ·exact⟨_,_,h.blk⟩
def Rd.lt (h:Rd k most w Rb B pre e used nm Own)(a:Own j):4<=j/\j<w.heap.size:=by
 rcases h with⟨rfl,rfl,_,_,_,_,_,_,_,_,_,_,_,_,_,h⟩|h
 ·obtain⟨b,y⟩:=(h.own j).1 a;have:=h.m.big;refine⟨b,?_⟩;rcases y with y|y|y|y|y
  ·rw[y];exact aO h.blk
  ·omega
  ·rw[y];exact h.m.glt
  ·exact(h.m.lets.lt j y).2
  ·exact(h.m.ar8 j y).2.1
 ·rw[(h.own j).1 a];exact⟨h.rb4,aO h.blk⟩
def Rd.mem (h:Rd k most w Rb B pre e used nm Own):Own Rb:=by
 rcases h with⟨rfl,rfl,_,_,_,_,_,_,_,_,_,_,_,_,_,h⟩|h
 ·refine(h.own Rb).2 ⟨?_, .inl rfl⟩;have:=h.rb;have:=h.rs.f4;have:=h.rs.fd;have:=h.rs.dD;have:=h.rs.DP;have:=h.rs.PN;omega
 ·exact(h.own Rb).2 rfl
def Rd.frame (h:Rd k most w Rb B pre e used nm Own){S:Nat->Prop}(hs:Step S w w')(p:∀j,S j->j<w.heap.size->4<=j/\¬Own j/\CG w j):Rd k most w' Rb B pre e used nm Own:=by
 have i:¬S Rb:=fun x=>(p Rb x (h.lt h.mem).2).2.1 h.mem;rcases h with⟨rfl,rfl,w0,g,off,cap,f,d,D,X,P,F,q,lv,v,h⟩|h
 ·have c1:=h.rs.f4;have c2:=h.rs.fd;have c3:=h.rs.dD;have c4:=h.rs.DP;have t:=h.rs.PN;have u:=h.m.big;have no:∀j,S j->j<w.heap.size->4<=j/\¬(f<=j/\j<w0.heap.size)/\j≠g/\lv.ownBlock≠some j/\v.ownBlock≠some j/\CG w j:=fun j s r=>by
   obtain⟨a,b,c⟩:=p j s r;have n:¬(j=Rb\/(f<=j/\j<w0.heap.size)\/j=g\/lv.ownBlock=some j\/v.ownBlock=some j):=fun y=>b ((h.own j).2 ⟨a,y⟩);exact⟨a,fun y=>n (.inr (.inl y)),fun y=>n (.inr (.inr (.inl y))),fun y=>n (.inr (.inr (.inr (.inl y)))),fun y=>n (.inr (.inr (.inr (.inr y)))),c⟩
  have l:=h.m.frame h.rs hs no;refine .inl ⟨rfl,rfl,w0,g,off,cap,f,d,D,X,P,F,q,lv,v,h.rs,l,hs.at_ h.dec (fun x=>(no D x (by omega)).2.1 ⟨by omega,by omega⟩),h.rv,h.o,⟨l.src,l.AA,l.glt,h.fed.aF4,h.fed.le,h.fed.aH1⟩,h.bk,h.now,h.ay7,h.enm,hs.at_ h.blk i,h.rb,h.rbo,h.own⟩
 ·exact .inr ⟨hs.at_ h.blk i,h.e3,h.all,h.own,h.rb4⟩
structure Xi (k most:Nat)(w w':aH)(f d D X P:Nat)(F:Nat->aK):Prop where
 rs:RS k w' f d D X P F
 dec:w'.heap[d]? =some (AO f most)
 wrap:gQ w' D f d (fD P 0 (np k)) (.slice none 0 0) (eP [])
 xat:ED k w' X D (MJ k most) (.slice none 0 0)
 step:O w w'
 low:w.heap.size<=d
def aB8 (k f most:Nat)(w:aH)(hk:k<=2)(c:4<=f)(p:f<w.heap.size):Calls prog 36 #[V k,E f,V most] w fun e w'=>∃d D X P F,e= .returned (.tuple #[E D,V 0])/\Xi k most w w' f d D X P F:=by
 have o:k=0\/k=1\/k=2:=by omega
 rcases o with rfl|rfl|rfl
 ·apply(ao6 f most w).mono;rintro e w' ⟨rfl,a⟩;have hs:O w w':=by rw[a];exact(((aU _ _).alloc _).alloc _).alloc _
  have s:w'.heap.size=w.heap.size+3:=by rw[a];simp
  have m:w'.heap[w.heap.size]? =some (AO f most):=by
   rw[a];exact((dG _ _ _ (by simp;omega)).trans (dG _ _ _ (by simp))).trans (aR _ _)
  have b:w'.heap[w.heap.size+1]? =some (.cells #[E f,E w.heap.size, .slice (some ⟨w.heap.size+1+1,0,none⟩) 1 1, .slice none 0 0, .string ⟨#[]⟩] 96 (0,0)):=by
   rw[a];refine(dG _ _ _ (by simp)).trans ?_;have i:=aR (w.alloc (.cells #[E f, .slice none 0 0,V 0,V most,V 0, .bool false,V 0, .map none,V 0, .map none,V 0, .pointer none] 128)) (.cells #[E f,E w.heap.size, .slice (some ⟨w.heap.size+1+1,0,none⟩) 1 1, .slice none 0 0, .string ⟨#[]⟩] 96);simpa using i
  have l:w'.heap[w.heap.size+2]? =some (.cells #[.func (.func 50) #[.pointer (some ⟨w.heap.size+1,0,none⟩)] #[]] 138 (0,0)):=by
   rw[a];have i:=aR ((w.alloc (.cells #[E f, .slice none 0 0,V 0,V most,V 0, .bool false,V 0, .map none,V 0, .map none,V 0, .pointer none] 128)).alloc (.cells #[E f,E w.heap.size, .slice (some ⟨w.heap.size+1+1,0,none⟩) 1 1, .slice none 0 0, .string ⟨#[]⟩] 96)) (.cells #[.func (.func 50) #[.pointer (some ⟨w.heap.size+1,0,none⟩)] #[]] 138);simpa using i
  refine⟨w.heap.size,w.heap.size+1,w.heap.size+1,w.heap.size+2,fun _=> .func (.func 50) #[.pointer (some ⟨w.heap.size+1,0,none⟩)] #[],rfl,⟨by omega,c,by omega,by omega,by omega,by omega,fun _=>rfl,fun y=>absurd rfl y,fun j t=> ?_,rfl⟩,m,b,bT,hs,aS _⟩;have r:np 0=1:=rfl;obtain rfl:j=0:=by omega
  exact aC l 0 _ rfl
 ·apply(Yn f most w).mono;rintro e w' ⟨rfl,h⟩;have b:=h.size;exact⟨w.heap.size,w.heap.size+1,w.heap.size+2,w.heap.size+3,wD (w.heap.size+2),rfl,⟨by omega,c,by omega,by omega,by omega,by omega,fun y=>by omega,fun _=>⟨by omega,by omega⟩,h.parts,fun j _=>rfl⟩,h.dec,h.wrap,h.kept,h.step,aS _⟩
 ·apply(Zo f most w).mono;rintro e w' ⟨rfl,P,F,h,n⟩;have b:=h.size;have l:=h.lt;exact⟨w.heap.size,w.heap.size+1,w.heap.size+2,P,F,rfl,⟨by omega,c,by omega,by omega,by omega,by omega,fun y=>by omega,fun _=>⟨by omega,by omega⟩,h.parts,n⟩,h.dec,h.wrap,h.kept,h.step,aS _⟩
def Tw (k most:Nat)(hk:k<=2):xV k [] most 3 [] 0 []:=by
 have a:k=0\/k=1\/k=2:=by omega
 unfold xV dV;rcases a with rfl|rfl|rfl
 ·rw[aA rfl];refine⟨_,3,[],0, .miss _ (by show(0:Nat)≠3;omega) ?_,by rw[aB (by omega)];exact⟨rfl,rfl,rfl,rfl⟩⟩;rfl
 ·rw[aB (show¬(MJ 1 most).i=bi 1 from(by decide:¬(0:Nat)=bi 1)),aB (by omega),aA rfl];refine⟨⟨rfl,?_⟩,rfl⟩;unfold xO;rw[aB (by simp)];exact⟨rfl,rfl,rfl⟩
 ·rw[aB (show¬(MJ 2 most).i=bi 2 from(by decide:¬(0:Nat)=bi 2)),aB (by omega),aB (by omega)];refine⟨rfl,?_⟩;unfold xA mO;rw[aB (by simp)];exact⟨rfl,rfl,rfl,rfl⟩
def RV.start (k most:Nat):RV k [] most (MJ k most):=by
 have b:bi k<np k:=XQ k;refine⟨fun y a=>by simp[MJ]at a,by simp[MJ],fun e=> ?_,fun e=> ?_,fun y=>by have y:bi k<0:=y;omega,fun _=>⟨rfl,rfl⟩,iZ _,fun _=>⟨by show(0:Nat)≠3;omega,rfl,rfl,rfl⟩,fun _ y=>by have y:1<=0:=y;omega,fun _ _=>rfl,fun _ _=>rfl,fun _=> ?_,fun _=>⟨rfl,rfl⟩,by show(0:Nat)<_;omega⟩
 ·subst e;simp[MJ,dZ,eH]
 ·subst e;simp[MJ,aL,gJ]
 ·exact⟨fun _=>⟨rfl,by simp[RQ.g,MJ,aL,gJ]⟩,fun y=>by have y:4<=0:=y;omega,by show(6:Nat)<65536;omega,fun _=>rfl,fun y a=>by simp[RQ.g,MJ]at a,aS _,fun _=>rfl,fun _=>rfl,fun _=>rfl⟩
def Xi.live {w5:aH}{f d D X P:Nat}{F:Nat->aK}(h:Xi k most w w4 f d D X P F)(r:bL w5)(n:bN w5 f (.slice none 0 0) 0 0)(hs:O w4 w5){Rb:Nat}(o:w4.heap.size<=Rb)(s:w5.heap[Rb]? =some (.cells #[E f,E D,V 3, .slice none 0 0,V 0, .string (eP [])] 82 (0,0))):Rd k most w5 Rb [] [] 3 0 [] (fun j=>4<=j/\(j=Rb\/(f<=j/\j<w4.heap.size))):=by
 have c1:=h.rs.f4;have c2:=h.rs.fd;have c3:=h.rs.dD;have c4:=h.rs.DP;have u:=h.rs.PN;have t:=hs.size;have c:Go.dM.Src w5 0 4611686018427387904 []:=⟨fun i hi=>by simp at hi,fun i=>by simp,by simp⟩
 refine .inl ⟨rfl,rfl,w4,0,4611686018427387904,0,f,d,D,X,P,F,MJ k most, .slice none 0 0, .slice none 0 0,h.rs,⟨fun a _ _ p=>hs.block a p (fun x=>x),c, .inl (by omega),by omega,r,h.xat.step hs (fun _ x=>x),jJ _ _ _ _,fun _=>rfl,?_,t,fun _=>⟨hs.at_ h.dec (fun x=>x),rfl⟩,fun _=> .inl ⟨hs.at_ h.dec (fun x=>x),rfl,rfl,rfl,rfl⟩,fun j l=>by simp[Value.ownBlock]at l,fun _=>rfl,aS _,aS _,_,hs.at_ h.dec (fun x=>x)⟩,hs.at_ h.wrap (fun x=>x),RV.start k most,rfl,⟨c, .inl (by omega),by omega,fun _=>rfl,aS _, .inr rfl⟩,fun _ _ _ _ _ x=>x,Tw k most h.rs.kk,rfl,rfl,s,o,⟨by omega,by simp[Value.ownBlock],by simp[Value.ownBlock]⟩,fun j=> ?_⟩
 ·show bN w5 f (.slice (bE 0 4611686018427387904 0) 0 0) 0 0;rw[Tv];exact n
 ·have m:∀j,¬(Value.slice none 0 0).ownBlock=some j:=fun j l=>by simp[Value.ownBlock]at l
  constructor
  ·rintro⟨a,b|b⟩
   ·exact⟨a, .inl b⟩
   ·exact⟨a, .inr (.inl b)⟩
  ·rintro⟨a,b|b|b|b|b⟩
   ·exact⟨a, .inl b⟩
   ·exact⟨a, .inr b⟩
   ·omega
   ·exact absurd b (m j)
   ·exact absurd b (m j)
def ZO (k:Nat)(most:Int)(w:aH)(hk:k<=2)(J:bL w)(M:4<=w.heap.size):Calls prog 28 #[V k,V most] w fun r w'=>∃Rb Own,r= .returned (.tuple #[E Rb,V 0])/\Rd k (asked most) w' Rb [] [] 3 0 [] Own/\(∀j,Own j->w.heap.size<=j)/\O w w':=by
 have m:=hide (fun f w3 C K=>aB8 k f (asked most) w3 hk C K);go_enter func28,ntmps28;go_wp2_with fail;apply(wS (.slice none 0 0) w ⟨_,_,_,rfl⟩).mono;rintro N w2 ⟨rfl,a⟩;have s:w2.heap.size=w.heap.size+1:=by rw[a];simp
 have n:O w w2:=by rw[a];exact(aU _ _).alloc _
 have l:bN w2 w.heap.size (.slice none 0 0) 0 0:=by rw[a];exact aR _ _
 clear a;obtain⟨f,u⟩:=aP w.heap.size;rw[<-u]at l|-
 have I:w.heap.size<=f:=by omega
 have i:f<w2.heap.size:=by omega
 have p:4<=f:=by omega
 clear u s;go_wp2_with fail;apply(Ac most w2).mono;rintro H w3 ⟨rfl,rfl⟩;go_wp2_with fail;apply(m.o f w3 p i).mono;rintro H w4 ⟨d,D,X,P,F,rfl,t⟩;have c:=t.step;have G:=c.size;have A:=hide (c.at_ l (fun x=>x));have z:=hide (n.trans c);go_wp2_with fail;go_ret2;have b:=(aU (fun _=>False) w4).alloc (.cells #[E f,E D,V 3, .slice none 0 0,V 0, .string ⟨#[]⟩] 82);refine⟨w4.heap.size,_,rfl,t.live (J.step (z.o.trans b) (fun _ _ x=>x)) (b.at_ A.o (fun x=>x)) b (aS _) (aR _ _),fun j L=> ?_,z.o.trans b⟩;rcases L with⟨_,y|y⟩<;>omega
def Y7 (kind:Int)(most:Int)(w:aH)(l:¬kind=0)(m:¬kind=1)(s:¬kind=2):Calls prog 28 #[V kind,V most] w fun r w'=>r= .returned (.tuple #[.pointer none,V 1])/\O w w':=by
 have b:=hide (fun f w3=>XA kind f (asked most) w3 l m s);go_enter func28,ntmps28;go_wp2_with fail;apply(wS (.slice none 0 0) w ⟨_,_,_,rfl⟩).mono;rintro t w2 ⟨rfl,a⟩;have c:O w w2:=by rw[a];exact(aU _ _).alloc _
 clear a;go_wp2_with fail;apply(Ac most w2).mono;rintro n w3 ⟨rfl,rfl⟩;go_wp2_with fail;apply(b.o _ w3).mono;rintro n w4 ⟨rfl,i⟩;have p:=hide (c.trans i);go_wp2_with fail;go_ret2;exact⟨rfl,p.o⟩
abbrev Ws (w:aH)(Rb:Nat)(a b:Option Addr)(e:Int)(u:Int)(nm:bY):Prop:=w.heap[Rb]? =some (.cells #[.pointer a, .pointer b,V e, .slice none 0 0,V u, .string nm] 82 (0,0))
def Zi (w:aH)(Rb f D:Nat)(s l:Int)(n0 nmb:bY)(u:Option Addr)(len n:Nat)(b:Ws w Rb (some (U f 0)) (some (U D 0)) s l n0)(Q:aH->aH->Prop)(t:∀w1,Step (·=Rb) w w1->Ws w1 Rb (some (U f 0)) (some (U D 0)) 3 0 nmb->Calls prog 65 #[E f] w1 fun r w'=>r= .returned (.tuple #[])/\Q w1 w'):Calls prog 42 #[E Rb, .agg #[V 3, .slice u len n,V 0, .string nmb]] w fun r w'=>r= .returned (.tuple #[])/\∃w1,Step (·=Rb) w w1/\Ws w1 Rb (some (U f 0)) (some (U D 0)) 3 0 nmb/\Q w1 w':=by have C:=aO b;have G:=aC b 0 _ rfl;have c1:=aC b 1 _ rfl;have c2:=aC b 2 _ rfl;have c3:=aC b 3 _ rfl;have c4:=aC b 4 _ rfl;have y:=aC b 5 _ rfl;have I:=aJ b 2;have z:=aJ b 3;have H:=aJ b 4;have A:=aJ b 5;have i:=((((aU (·=Rb) w).setCell (p:=(U Rb 2)) rfl (V 3)).setCell (p:=(U Rb 3)) rfl (.slice none 0 0)).setCell (p:=(U Rb 4)) rfl (V 0)).setCell (p:=(U Rb 5)) rfl (.string nmb);have c:=aV (aV (aV (aV b 2 (V 3)) 3 (.slice none 0 0)) 4 (V 0)) 5 (.string nmb);simp only[Array.set!_eq_setIfInBounds,LM,List.set]at c;have a:=hide (show∀o,Step (·=Rb) w (((((w.setCell (U Rb 2) (V 3)).setCell (U Rb 3) (.slice none 0 0)).setCell (U Rb 4) (V 0)).setCell (U Rb 5) (.string nmb)).alloc o)/\Ws (((((w.setCell (U Rb 2) (V 3)).setCell (U Rb 3) (.slice none 0 0)).setCell (U Rb 4) (V 0)).setCell (U Rb 5) (.string nmb)).alloc o) Rb (some (U f 0)) (some (U D 0)) 3 0 nmb from fun o=>⟨i.alloc o,((aU (fun _=>False) _).alloc o).at_ c (fun x=>x)⟩);go_enter func42,ntmps42;go_wp2_with fail;apply(t _ (a.o _).1 (a.o _).2).mono;rintro r w' ⟨rfl,m⟩;go_wp2_with fail;go_end0;exact⟨rfl,_,(a.o _).1,(a.o _).2,m⟩
def Te (w:aH)(Rb e used:Nat)(a b:Option Addr)(t n:Int)(n0 nmb:bY)(z:Option Addr)(len s:Nat)(u:e≠3)(c:Ws w Rb a b t n n0):Calls prog 42 #[E Rb, .agg #[V e, .slice z len s,V used, .string nmb]] w fun r w'=>r= .returned (.tuple #[])/\Step (·=Rb) w w'/\Ws w' Rb none none (e:Nat) (used:Nat) nmb:=by have H:=aO c;have J:=aC c 0 _ rfl;have c1:=aC c 1 _ rfl;have c2:=aC c 2 _ rfl;have c3:=aC c 3 _ rfl;have c4:=aC c 4 _ rfl;have A:=aC c 5 _ rfl;have I:=aJ c 0;have g1:=aJ c 1;have L:=aJ c 2;have C:=aJ c 3;have K:=aJ c 4;have G:=aJ c 5;have y:((e:Int)==3)=false:=aX.2 (by omega);have l:=((((((aU (·=Rb) w).setCell (p:=(U Rb 2)) rfl (V e)).setCell (p:=(U Rb 3)) rfl (.slice none 0 0)).setCell (p:=(U Rb 4)) rfl (V used)).setCell (p:=(U Rb 5)) rfl (.string nmb)).setCell (p:=(U Rb 0)) rfl (.pointer none)).setCell (p:=(U Rb 1)) rfl (.pointer none);have i:=aV (aV (aV (aV (aV (aV c 2 (V e)) 3 (.slice none 0 0)) 4 (V used)) 5 (.string nmb)) 0 (.pointer none)) 1 (.pointer none);simp only[Array.set!_eq_setIfInBounds,LM,List.set]at i;have m:=hide (aQ l i);clear c u l i;go_enter func42,ntmps42;go_wp2_with fail;go_end0;exact⟨rfl,m.o.1.alloc _,((aU (fun _=>False) _).alloc _).at_ m.o.2 (fun x=>x)⟩
def an5 (w:aH)(Rb e used:Nat)(a b:Option Addr)(nmb:bY)(c:Ws w Rb a b (e:Nat) (used:Nat) nmb):Calls prog 30 #[E Rb] w fun r w'=>r= .returned (.tuple #[.bool (e==0),V used])/\O w w':=by
 have o:=aO c;have c2:=aC c 2 _ rfl;have c4:=aC c 4 _ rfl;clear c;have l:((e:Int)==0)=(e==0):=by
  by_cases i:e=0
  ·subst i;rfl
  ·rw[aX.2 i,aX.2 (by omega)]
 have m:w.cell? (U Rb 2)=some (V e):=c2;have n:w.cell? (U Rb 4)=some (V used):=c4;clear c2 c4;go_enter func30,ntmps30;go_wp2_with fail;go_quiet (fail);all_goals
  go_wp2_with fail;go_ret2;exact⟨rfl,(aU _ _).drewN _⟩
def aj6 (w:aH)(Rb:Nat)(e u:Int)(a b:Option Addr)(nmb:bY)(c:Ws w Rb a b e u nmb):Calls prog 31 #[E Rb] w fun r w'=>r= .returned (.string nmb)/\w'=w:=by have i:=aO c;have l:=aC c 5 _ rfl;clear c;go_enter func31,ntmps31;go_wp2_with fail;go_ret;exact⟨rfl,rfl⟩
variable {k most:Nat} {w:aH} {Rb:Nat} {B pre nm:aD} {Own:Nat->Prop} {w0:aH} {g off cap f d D X P:Nat} {F:Nat->aK} {q:RQ} {lv v:aK}
def LU (w:aH)(j:Nat):Prop:=∃A t,w.heap[j]? =some (.cells A t (0,0))/\t≠125/\t≠116
def LU.b (h:LU w j):CG w j:=by obtain⟨A,t,a,c,_⟩:=h;exact⟨A,t,a,c⟩
structure WrP (k most:Nat)(w:aH)(Rb:Nat)(B pre:aD)(Own:Nat->Prop)(vo:aK)(e:Nat)(ys:aD)(w':aH):Prop where
 row:Taken w' w.heap.size vo ys
 rd:∃used nm Own',Rd k most w' Rb B (pre++ys) e used nm Own'/\(∀j,Own' j->Own j\/w.heap.size<=j)/\(∀j,vo.ownBlock=some j->¬Own' j)
 step:∃S:Nat->Prop,Step S w w'/\∀j,S j->Own j/\LU w j
def EO.added (h:EO k most w Rb B pre nm Own w0 g off cap f d D X P F q lv v){M:aD}{w1:aH}(b:bN w1 f (.slice (bE g1 off1 (B.drop q.z++M).length) (B.drop q.z++M).length cap1) (q.p-8*q.z) q.z)(a:uP w1 w0.heap.size f g1 off1 cap1 (B.drop q.z++M))(c:g1=0\/w.heap.size<=g1)(hs:Step (·=f) w w1):OG k w0 w1 g1 off1 cap1 f d D X (B++M) most q lv v/\gQ w1 D f d (fD P q.i (np k)) (.slice none 0 0) (eP q.nm)/\RV k (B++M) most q/\uP w1 w0.heap.size f g1 off1 cap1 ((B++M).drop q.z)/\Bk k (B++M) most (MJ k most) q:=by
 have c1:=h.rs.f4;have c2:=h.rs.fd;have c3:=h.rs.dD;have n:=h.m.zp;have hh:=h.m.here;have l:(B++M).drop q.z=B.drop q.z++M:=List.drop_append_of_le_length (by omega);rw[<-l]at b a;refine⟨h.m.YE h.rs hs b a c (by rw[aN];omega) n,hs.at_ h.dec (by omega),h.rv.more hh M,a,fun Y e out used name x=> ?_⟩;rw[dB]at x|-
 exact h.bk (M++Y) e out used name x
def WrS (Rb D d f X:Nat)(lv v:aK)(j:Nat):Prop:=j=Rb\/RO D d f X lv v j
def EO.plain (h:EO k most w Rb B pre nm Own w0 g off cap f d D X P F q lv v)(I:WrS Rb D d f X lv v j):Own j/\LU w j:=by
 have c1:=h.rs.f4;have c2:=h.rs.fd;have c3:=h.rs.dD;have c4:=h.rs.DP;have K:=h.rs.PN;have L:=h.m.big;have s:=h.rb;rcases I with rfl|rfl|rfl|rfl|rfl|y|y
 ·exact⟨(h.own _).2 ⟨by omega, .inl rfl⟩,_,_,h.blk,by decide,by decide⟩
 ·exact⟨(h.own _).2 ⟨by omega, .inr (.inl ⟨by omega,by omega⟩)⟩,_,_,h.dec,by decide,by decide⟩
 ·obtain⟨A,J⟩:=h.m.dat;exact⟨(h.own _).2 ⟨by omega, .inr (.inl ⟨by omega,by omega⟩)⟩,A,_,J,by decide,by decide⟩
 ·exact⟨(h.own _).2 ⟨by omega, .inr (.inl ⟨by omega,by omega⟩)⟩,_,_,h.m.feed,by decide,by decide⟩
 ·by_cases l:k=0
  ·rw[h.rs.X0 l];exact⟨(h.own _).2 ⟨by omega, .inr (.inl ⟨by omega,by omega⟩)⟩,_,_,h.dec,by decide,by decide⟩
  ·have:=h.rs.XP l;obtain⟨A,t,u,p⟩:=h.m.xat.blk l;exact⟨(h.own _).2 ⟨by omega, .inr (.inl ⟨by omega,by omega⟩)⟩,A,t,u,by rcases p with rfl|rfl<;>decide,by rcases p with rfl|rfl<;>decide⟩
 ·have r:=h.m.lets.lt j y;refine⟨(h.own _).2 ⟨by omega, .inr (.inr (.inr (.inl y)))⟩,?_⟩;obtain⟨_,⟨b,_⟩|⟨H,c,n,b,_,hh,_⟩⟩:=h.m.lets
  ·rw[b]at y;cases y
  ·rw[b]at y;cases y;exact⟨_,_,hh,by decide,by decide⟩
 ·have r:=h.m.ar8 j y;refine⟨(h.own _).2 ⟨by omega, .inr (.inr (.inr (.inr y)))⟩,?_⟩;have a:v= .slice none 0 0->LU w j:=fun e=>by rw[e]at y;cases y
  by_cases G:q.i<bi k
  ·exact a (h.m.fresh G).2
  ·by_cases C:bi k<q.i
   ·exact a (h.m.behind C)
   ·rcases h.m.inner (by omega)with⟨_,e,_⟩|⟨sr,z,_⟩
    ·exact a e
    ·obtain⟨st,rfl,o,_⟩:=z.ex;obtain⟨_,⟨b,_⟩|⟨H,c,n,b,_,hh,_⟩⟩:=o.dec.own
     ·rw[b]at y;cases y
     ·rw[b]at y;cases y;exact⟨_,_,hh,by decide,by decide⟩
def OG.other {w':aH}(h:OG k w0 w g off cap f d D X B most q lv v)(c:RS k w0 f d D X P F){t:Nat}{A:Array aK}(l:t=96\/t=45)(o:w.heap[j]? =some (.cells A t (0,0)))(b:j=D\/w0.heap.size<=j)(hs:Step (·=j) w w'):OG k w0 w' g off cap f d D X B most q lv v:=by
 have c1:=c.f4;have c2:=c.fd;have c3:=c.dD;have c4:=c.DP;have K:=c.PN;have r:=h.big;have L:=hs.size;have J:t≠128:=by rcases l with rfl|rfl<;>decide
 have H:t≠91:=by rcases l with rfl|rfl<;>decide
 have u:t≠5:=by rcases l with rfl|rfl<;>decide
 have G:t≠125:=by rcases l with rfl|rfl<;>decide
 have I:t≠21:=by rcases l with rfl|rfl<;>decide
 have m:g≠j:=fun e=>by
  rcases h.AA with y|⟨y,s,z⟩
  ·rcases b with b|b<;>omega
  ·rw[e,o]at z;simp only[fH,uK]at z;exact u z.2.1
 have n:d≠j:=by rcases b with b|b<;>omega
 refine⟨fun a a1 a2 p=> ?_,h.src.step hs m,?_,by have:=h.glt;omega,h.order.step hs (fun i hi x=>by rcases b with b|b<;>omega),h.xat.step hs (fun C x=>by have:=c.XP C;rcases b with b|b<;>omega),kH h.lets hs (fun i hi x=>xM h.lets o I (by rw[hi,x])),h.ag1,hs.at_ h.feed (by rcases b with b|b<;>omega),by omega,fun y=>⟨hs.at_ (h.fresh y).1 n,(h.fresh y).2⟩,fun y=> ?_,fun i hi=> ?_,h.behind,h.here,h.zp,h.dat.imp fun A y=>hs.at_ y n⟩
 ·rw[<-h.old a a1 a2 p];exact hs.block a (by omega) (by rcases b with b|b<;>omega)
 ·rcases h.AA with y|⟨y,s,z⟩
  ·exact .inl y
  ·exact .inr ⟨y,s,hs.at_ z m⟩
 ·rcases h.inner y with⟨a1,a2⟩|⟨sr,a1,a2⟩
  ·exact .inl ⟨hs.at_ a1 n,a2⟩
  ·exact .inr ⟨sr,a1.other hs o J H u G m (by rcases b with b|b<;>omega),a2⟩
 ·obtain⟨a1,a2,p⟩:=h.ar8 i hi;exact⟨a1,by omega,p⟩
def Yx (k most:Nat)(w0:aH)(g off cap f d D X P:Nat)(B:aD)(q:RQ)(lv v:aK)(n:Nat)(x:Nat)(vo:aK)(ys:aD)(used:Nat)(nmb:bY)(pt:aK)(w':aH):Prop:=
 ∃nm',nmb=eP nm'/\dV k B most q x (q.pre++ys) used nm'/\((x≠3/\∀Y,dV k (B++Y) most q x (q.pre++ys) used nm')\/
  (x=3/\used=0/\∃q' lv' v',OG k w0 w' g off cap f d D X B most q' lv' v'/\pt=fD P q'.i (np k)/\q'.o=ys/\q'.nm=nm'/\(∀j,lv'.ownBlock=some j\/v'.ownBlock=some j->RO D d f X lv v j\/n<=j)/\Bk k B most q q'/\RV k B most q'/\q'.z=q.z/\q'.pre=q.pre/\Apart vo v'))
def a97 (b:RS k w0 f d D X P F)(s:OG k w0 w g off cap f d D X B most q lv v)(hd:gQ w D f d (fD P q.i (np k)) (.slice none 0 0) (eP q.nm))(Z:RV k B most q)(W:q.o=[])(hB:iR B)(hL:B.length<=8388608)(I:most<=1048576):Calls prog 38 #[E D,E f] w fun r w'=>∃(x:Nat) (vo:aK) (ys:aD) (used:Nat) (nmb:bY) (pt:aK),r= .returned (.agg #[V (x:Nat),vo,V used, .string nmb])/\Taken w' w.heap.size vo ys/\gQ w' D f d pt (.slice none 0 0) nmb/\Step (RO D d f X lv v) w w'/\Yx k most w0 g off cap f d D X P B q lv v w.heap.size x vo ys used nmb pt w':=by
 have c1:=b.f4;have c2:=b.fd;have c3:=b.dD;have c4:=b.DP;have c5:=b.PN;have n:=s.big;have m:∀j,RO D d f X lv v j->j<w.heap.size:=fun j x=>by
  rcases x with x|x|x|x|x|x
  ·omega
  ·omega
  ·omega
  ·by_cases R:k=0
   ·have:=b.X0 R;omega
   ·have:=b.XP R;omega
  ·exact(s.lets.lt j x).2
  ·exact(s.ar8 j x).2.1
 refine aA3 w w0.heap.size w.heap.size f d D (RO D d f X lv v) (Yx k most w0 g off cap f d D X P B q lv v w.heap.size) (by omega) (.inl rfl) m n (fun x vo ys u nmb pt w1 w2 j t A ht hb Q hs hk=> ?_) (fun w1 c=> ?_)
 ·obtain⟨a,S,Y,G|⟨G,h4,q',l,L,h5,h6⟩⟩:=hk
  ·exact⟨a,S,Y, .inl G⟩
  ·exact⟨a,S,Y, .inr ⟨G,h4,q',l,L,h5.other b ht hb Q hs,h6⟩⟩
 ·have z:=s.frame b c (fun _ x=>x.elim);have J:=c.size;refine(Yb (n0:=w.heap.size) b ⟨z,c.at_ hd (fun x=>x),by rw[W];exact jJ _ _ _ _⟩ (fun _=>⟨rfl,W⟩) Z hB hL I J).mono ?_;rintro r w' ⟨x,rfl,parts,vo,H,a,a1,a2,M,⟨rfl,used,b1,b2,T,p⟩|⟨rfl,b1,q',l,L,b2,T,p,b5,b6,b7,b8,b9,N,C⟩|⟨hx,K,b1⟩⟩
  ·refine⟨0,vo,H,used,eP a,parts,rfl,⟨a1,a2,M,fun y=>absurd rfl y,fun _=>⟨_,_,b1,b2,by omega⟩⟩,a,rfl,?_, .inl ⟨by omega,p⟩⟩;have:=p [];rw[bG]at this;exact this
  ·exact⟨3,vo,H,0,eP a,parts,rfl,⟨a1,a2,M,fun _=>rfl,fun y=>by omega⟩,a,rfl,b1, .inr ⟨rfl,rfl,q',l,L,b2,T,p,b5,fun j Q=>(b6 j Q).imp id (fun y=>by omega),b7,b8,b9,N,C⟩⟩
  ·refine⟨x,vo,H,0,eP a,parts,rfl,⟨a1,a2,M,fun _=>rfl,fun y=>absurd y hx⟩,a,rfl,?_, .inl ⟨K,b1⟩⟩;have:=b1 [];rw[bG]at this;exact this
variable {k most:Nat} {w:aH} {Rb:Nat} {B pre nm:aD} {Own:Nat->Prop} {w0:aH} {g off cap f d D X P:Nat} {F:Nat->aK} {q:RQ} {lv v:aK}
def WrP.step0 {w' b:aH}{Rb:Nat}{pre:aD}{Own:Nat->Prop}(h:WrP k most w Rb B pre Own vo e ys w')(hs:O w' b):WrP k most w Rb B pre Own vo e ys b:=by obtain⟨used,nm,a,i,m⟩:=h.rd;obtain⟨S,c,l⟩:=h.step;exact⟨fJ h.row hs (fun _ _ x=>x),⟨used,nm,a,i.frame hs (fun _ x=>x.elim),m⟩,S,c.trans (hs.mono (fun _ x=>x.elim)),l⟩
def FT (k most:Nat)(w:aH)(Rb:Nat)(w0:aH)(g1 off1 cap1 f d D X P:Nat)(B:aD)(q:RQ)(lv v:aK)(nm:aD)(x:Nat)(vo:aK)(ys:aD)(used:Nat)(nmb:bY)(w2:aH):Prop:=
 Taken w2 w.heap.size vo ys/\Ws w2 Rb (some (U f 0)) (some (U D 0)) 3 0 (eP nm)/\Step (RO D d f X lv v) w w2/\∃pt n,gQ w2 D f d pt (.slice none 0 0) nmb/\w.heap.size<=n/\Yx k most w0 g1 off1 cap1 f d D X P B q lv v n x vo ys used nmb pt w2
def FT.step (h:FT k most w Rb w0 g1 off1 cap1 f d D X P B' q lv v nm x vo ys used nmb w2)(t:RS k w0 f d D X P F)(hs:O w2 w3):FT k most w Rb w0 g1 off1 cap1 f d D X P B' q lv v nm x vo ys used nmb w3:=by
 obtain⟨a1,a2,l,pt,n,i,m,a,b1,b2,b|⟨b,o,q',c,p,r,s⟩⟩:=h
 ·exact⟨fJ a1 hs (fun _ _ x=>x),hs.at_ a2 (fun x=>x),l.trans (hs.mono (fun _ x=>x.elim)),pt,n,hs.at_ i (fun x=>x),m,a,b1,b2, .inl b⟩
 ·exact⟨fJ a1 hs (fun _ _ x=>x),hs.at_ a2 (fun x=>x),l.trans (hs.mono (fun _ x=>x.elim)),pt,n,hs.at_ i (fun x=>x),m,a,b1,b2, .inr ⟨b,o,q',c,p,r.frame t hs (fun _ x=>x.elim),s⟩⟩
def FT.other (h:FT k most w Rb w0 g1 off1 cap1 f d D X P B' q lv v nm x vo ys used nmb w2)(c:RS k w0 f d D X P F){A:Array aK}(o:w2.heap[j]? =some (.cells A 45 (0,0)))(K:w.heap.size<=j)(l:w0.heap.size<=j)(hs:Step (·=j) w2 w3):FT k most w Rb w0 g1 off1 cap1 f d D X P B' q lv v nm x vo ys used nmb w3:=by
 have c3:=c.dD;have c4:=c.DP;have J:=c.PN;obtain⟨a1,a2,G,pt,n,r,t,y⟩:=h;have a:Rb≠j:=fun e=>by
  unfold Ws at a2;rw[e,o]at a2;simp only[fH,uK]at a2;exact absurd a2.2.1 (by decide)
 have s:Taken w3 w.heap.size vo ys:=fJ a1 hs (fun i hi e=>kR a1 o (by decide) (by rw[hi,e]));have u:Step (RO D d f X lv v) w w3:=G.trans' hs (fun i hi e=>by omega);obtain⟨b,b1,b2,m|⟨m,z,q',p,C,H,I⟩⟩:=y
 ·exact⟨s,hs.at_ a2 a,u,pt,n,hs.at_ r (by omega),t,b,b1,b2, .inl m⟩
 ·exact⟨s,hs.at_ a2 a,u,pt,n,hs.at_ r (by omega),t,b,b1,b2, .inr ⟨m,z,q',p,C,H.other c (.inr rfl) o (.inr l) hs,I⟩⟩
def FT.store (h:FT k most w Rb w0 g1 off1 cap1 f d D X P B' q lv v nm x vo ys used nmb w2)(n:RS k w0 f d D X P F)(l:w2.heap[j]? =some (.cells #[V 0, .slice none 0 0,V 0, .string ⟨#[]⟩] 45 (0,0)))(m:w.heap.size<=j)(i:w0.heap.size<=j)(a b c e:aK):FT k most w Rb w0 g1 off1 cap1 f d D X P B' q lv v nm x vo ys used nmb ((((w2.setCell (U j 0) a).setCell (U j 1) b).setCell (U j 2) c).setCell (U j 3) e)/\((((w2.setCell (U j 0) a).setCell (U j 1) b).setCell (U j 2) c).setCell (U j 3) e).heap[j]? =some (.cells #[a,b,c,e] 45 (0,0))/\w.heap.size<=j:=by refine⟨h.other n l m i (((((aU (·=j) w2).setCell (p:=(U j 0)) rfl _).setCell (p:=(U j 1)) rfl _).setCell (p:=(U j 2)) rfl _).setCell (p:=(U j 3)) rfl _),?_,m⟩;have o:=aV (aV (aV (aV l 0 a) 1 b) 2 c) 3 e;simpa using o
def FT.no (h:FT k most w Rb w0 g1 off1 cap1 f d D X P B' q lv v nm 3 vo ys used nmb w2):used=0:=by
 obtain⟨_,_,_,_,_,_,_,_,_,_,⟨b,_⟩|⟨_,b,_⟩⟩:=h
 ·exact absurd rfl b
 ·exact b
def EO.aC7 (h:EO k most w Rb B pre nm Own w0 g off cap f d D X P F q lv v)(b:WrS Rb D d f X lv v j):j<w.heap.size:=by obtain⟨_,A,t,a,_⟩:=h.plain b;exact aO a
def ap5 (h:EO k most w Rb B pre nm Own w0 g off cap f d D X P F q lv v)(l:Bk k B' most (MJ k most) q)(p:FT k most w Rb w0 g1 off1 cap1 f d D X P B' q lv v nm x vo ys used nmb w3)(m:x≠3)(hs:Step (·=Rb) w3 w4)(r:Ws w4 Rb none none (x:Nat) (used:Nat) nmb):WrP k most w Rb B' pre Own vo x ys w4:=by
 obtain⟨a1,a2,s,pt,n,z,t,i,b1,b2,⟨_,c⟩|⟨c,_⟩⟩:=p
 ·have c1:=h.rs.f4;have c2:=h.rs.fd;have c3:=h.rs.dD;have c4:=h.rs.DP;have u:=h.rs.PN;have o:=h.rb;have b:vo.ownBlock≠some Rb:=kR a1 a2 (by decide);subst b1;refine⟨fJ a1 hs (fun j a y=>b (by rw[a,y])),⟨used,i,(·=Rb), .inr ⟨r,m,fun Y=> ?_,fun _=>Iff.rfl,by omega⟩,fun j a=> .inl ?_,fun j a y=>b (by rw[a,y])⟩,WrS Rb D d f X lv v,(s.mono (fun j y=> .inr y)).trans (hs.mono (fun j y=> .inl y)),fun j a=>h.plain a⟩
  ·have:=l Y _ _ _ _ (c Y);rw[h.ay7]at this;exact this
  ·exact(h.plain (j:=j) (.inl a)).1
 ·exact absurd c m
def ax1 (h:EO k most w Rb B pre nm Own w0 g off cap f d D X P F q lv v)(W:Bk k B' most (MJ k most) q)(hg:FT k most w Rb w0 g1 off1 cap1 f d D X P B' q lv v nm 3 vo ys used nmb w3)(u:(off1=4611686018427387904->cap1=0)/\(B'.drop q.z).length<=cap1/\(off1=0\/off1=4611686018427387904))(ac:Rb≠g1)(hL:B'.length<=4000000)(hs:Step (·=Rb) w3 w4)(hb:Ws w4 Rb (some (U f 0)) (some (U D 0)) 3 0 nmb):Calls prog 65 #[E f] w4 fun r w'=>r= .returned (.tuple #[])/\WrP k most w Rb B' pre Own vo 3 ys w'/\Step (·=f) w4 w':=by
 obtain⟨a1,a2,a3,pt,n,a4,a5,Q,b1,b2,⟨b3,_⟩|⟨_,b4,q',s,v',b5,b6,b7,b8,b9,ag,aa,I,ae,af⟩⟩:=hg
 ·exact absurd rfl b3
 ·subst b1 b4 b6;have c1:=h.rs.f4;have c2:=h.rs.fd;have c3:=h.rs.dD;have c4:=h.rs.DP;have c5:=h.rs.PN;have ab:=h.rb;have am:=aO h.blk;have aj:=h.m.big;have J:vo.ownBlock≠some Rb:=kR a1 a2 (by decide);have z3:=a3.size;have z4:=hs.size;have K:¬RO D d f X lv v Rb:=fun y=>by
   rcases y with y|y|y|y|y|y
   ·omega
   ·omega
   ·omega
   ·by_cases e0:k=0
    ·have:=h.rs.X0 e0;omega
    ·have:=h.rs.XP e0;omega
   ·exact h.rbo.2.1 y
   ·exact h.rbo.2.2 y
  have a:∀j,s.ownBlock=some j\/v'.ownBlock=some j->j≠Rb:=fun j b e=>by
   rcases b9 j b with y|y
   ·exact K (by rw[<-e];exact y)
   ·omega
  have c:=b5.frame h.rs hs (fun j b hl=>by
   subst b;exact⟨by omega,fun y=>by omega,ac,fun y=>a _ (.inl y) rfl,fun y=>a _ (.inr y) rfl,_,_,a2,by decide⟩)
  have ad:=c.zp;have ah:=c.here;rw[I]at ad;have M:=c.feed;have T:=c.src;rw[I]at M T;have t:uP w4 w0.heap.size f g1 off1 cap1 (B'.drop q.z):=⟨T,c.AA,c.glt,u.1,u.2.1,u.2.2⟩
  have al:(B'.drop q.z).length=B'.length-q.z:=dX;apply(Q6 f g1 off1 cap1 (q'.p-8*q.z) q.z w0.heap.size (B'.drop q.z) w4 M t (by omega) (by omega) (by omega) (by omega) c.big).mono;rintro r w5 ⟨rfl,g5,S,N,d1,d2,Z,A⟩;refine⟨rfl,?_,A⟩;obtain⟨C,H⟩:=aP (q.z+(q'.p-8*q.z)/8);have e1:(B'.drop q.z).drop ((q'.p-8*q.z)/8)=B'.drop C:=by rw[List.drop_drop,H]
  have e2:q'.p-8*q.z-8*((q'.p-8*q.z)/8)=q'.p-8*C:=by omega
  rw[e1,e2,<-H]at d1;rw[e1]at d2;have R:=(c.YE h.rs A d1 d2 Z ah (by omega)).flush;have z5:=A.size;have L:gQ w5 D f d (fD P q'.i (np k)) (.slice none 0 0) (eP q'.nm):=by
   rw[b8];exact A.at_ (hs.at_ a4 (by omega)) (by omega)
  have G:Bk k B' most (MJ k most) ({ q' with z:=C }:RQ).flush:=fun Y e out us name y=>by
   rw[Ck,a19]at y;exact W Y e out us name (ag Y e out us name y)
  have l:Taken w5 w.heap.size vo ys:=fJ (fJ a1 hs (fun j b y=>J (by rw[b,y]))) A (fun j b y=>by have:=(a1.lt j b).1;omega);refine⟨l,⟨0,Q,fun j=>4<=j/\(j=Rb\/(f<=j/\j<w0.heap.size)\/j=g5\/s.ownBlock=some j\/v'.ownBlock=some j), .inl ⟨rfl,rfl,w0,g5,S,N,f,d,D,X,P,F,({ q' with z:=C }:RQ).flush,s,v',h.rs,R,L,(aa.at_ C).flush,rfl,d2,G,?_,?_,b8,A.at_ hb (by omega),ab,⟨by rcases Z with y|y<;>omega,fun y=>a _ (.inl y) rfl,fun y=>a _ (.inr y) rfl⟩,fun _=>Iff.rfl⟩,fun j b=> ?_,fun j b y=> ?_⟩,WrS Rb D d f X lv v,((a3.mono (fun j y=> .inr y)).trans (hs.mono (fun j y=> .inl y))).trans (A.mono (fun j y=> .inr (.inr (.inr (.inl y))))),fun j b=>h.plain b⟩
  ·have h9:=W [] 3 (q.pre++ys) 0 Q (by rw[bG];exact b2);rw[bG,h.ay7]at h9;exact h9
  ·show q'.pre++q'.o=pre++ys;rw[ae,b7,h.ay7]
  ·obtain⟨j4,y|y|y|y|y⟩:=b
   ·exact .inl (h.plain (j:=j) (.inl y)).1
   ·exact .inl ((h.own j).2 ⟨j4, .inr (.inl y)⟩)
   ·rcases Z with z|z
    ·omega
    ·exact .inr (by omega)
   ·rcases b9 j (.inl y)with z|z
    ·exact .inl (h.plain (j:=j) (.inr z)).1
    ·exact .inr (by omega)
   ·rcases b9 j (.inr y)with z|z
    ·exact .inl (h.plain (j:=j) (.inr z)).1
    ·exact .inr (by omega)
  ·have h1:=a1.lt j b;obtain⟨j4,y|y|y|y|y⟩:=y
   ·exact J (by rw[b,y])
   ·omega
   ·rcases Z with z|z<;>omega
   ·obtain⟨_,⟨hv,_⟩|⟨g',ai,ak,hv,_,hh,_⟩⟩:=l
    ·rw[hv]at b;cases b
    ·rw[hv]at b;cases b;exact xM R.lets hh (by decide) y
   ·exact af j b y
def Jv (h:EO k most w Rb B pre nm Own w0 g off cap f d D X P F q lv v)(gm om cm:Nat)(M:aD)(hM:Go.dM.Src w gm om M)(N:om=4611686018427387904->cm=0)(hB:iR (B++M))(hL:(B++M).length<=4000000)(ag:most<=1048576):Calls prog 29 #[E Rb, .slice (bE gm om M.length) M.length cm] w fun r w'=>∃(vo:aK) (e:Nat) (ys:aD),r= .returned (.tuple #[vo,V ((if e=3 then 0 else e:Nat):Int)])/\WrP k most w Rb (B++M) pre Own vo e ys w':=by
 have c1:=h.rs.f4;have c2:=h.rs.fd;have c3:=h.rs.dD;have c4:=h.rs.DP;have c5:=h.rs.PN;have Z:=h.m.big;have ap:=h.rb;have ah:=h.m.zp;have hh:=h.m.here;have av:=aO h.blk;have k0:w.cell? (U Rb 0)=some (E f):=aC h.blk 0 _ rfl;have k1:w.cell? (U Rb 1)=some (E D):=aC h.blk 1 _ rfl;have H:(B.drop q.z++M).length<=4000000:=by rw[aN,dX];rw[aN]at hL;omega
 have G:=hide (Hg f g off cap (q.p-8*q.z) q.z gm om cm w0.heap.size (B.drop q.z) M w h.m.feed h.fed hM N H (by omega) Z);/- goOn -/;have aj:=hide (show∀w1 g1 off1 cap1,bN w1 f (.slice (bE g1 off1 (B.drop q.z++M).length) (B.drop q.z++M).length cap1) (q.p-8*q.z) q.z->uP w1 w0.heap.size f g1 off1 cap1 (B.drop q.z++M)->(g1=0\/w.heap.size<=g1)->Step (·=f) w w1->Ws w1 Rb (some (U f 0)) (some (U D 0)) 3 0 (eP nm)/\∀W,O w1 W->Calls prog 38 #[E D,E f] W fun r w'=>∃(x:Nat) (i:Option Addr) (len l:Nat) (ys:aD) (used:Nat) (nmb:bY),r= .returned (.agg #[V (x:Nat), .slice i len l,V used, .string nmb])/\FT k most w Rb w0 g1 off1 cap1 f d D X P (B++M) q lv v nm x (.slice i len l) ys used nmb w'/\Step (·<w.heap.size) W w' from fun w1 g1 off1 cap1 hF u hg hs=>by
  obtain⟨a1,a2,a3,a4,a5⟩:=h.added hF u hg hs;have t:=hs.at_ h.blk (by omega);refine⟨t,fun W S=> ?_⟩;apply(a97 h.rs (a1.frame h.rs S (fun _ x=>x.elim)) (S.at_ a2 (fun x=>x)) a3 h.o hB (by omega) ag).mono;rintro r w' ⟨x,vo,ys,used,nmb,pt,rfl,b1,b2,L,b4⟩;obtain⟨i,l,hv⟩:=b1.slice;have z1:=hs.size;have z2:=S.size;refine⟨x,i,ys.length,l,ys,used,nmb,by rw[hv],?_,L.mono (fun j y=>(h.aC7 (.inr y)))⟩;rw[<-hv];have ak:Step (RO D d f X lv v) w w':=((hs.mono (fun j y=> .inr (.inr (.inl y)))).trans (S.mono (fun _ y=>y.elim))).trans L;refine⟨b1.mono (by omega),L.at_ (S.at_ t (fun y=>y)) (fun y=> ?_),ak,pt,W.heap.size,b2,by omega,b4⟩;rcases y with y|y|y|y|y|y
  ·omega
  ·omega
  ·omega
  ·by_cases e0:k=0
   ·have:=h.rs.X0 e0;omega
   ·have:=h.rs.XP e0;omega
  ·exact h.rbo.2.1 y
  ·exact h.rbo.2.2 y)
 have ad:=hide (show∀w1 g1 off1 cap1,bN w1 f (.slice (bE g1 off1 (B.drop q.z++M).length) (B.drop q.z++M).length cap1) (q.p-8*q.z) q.z->uP w1 w0.heap.size f g1 off1 cap1 (B.drop q.z++M)->(g1=0\/w.heap.size<=g1)->Step (·=f) w w1->Bk k (B++M) most (MJ k most) q/\((off1=4611686018427387904->cap1=0)/\((B++M).drop q.z).length<=cap1/\(off1=0\/off1=4611686018427387904))/\Rb≠g1 from fun w1 g1 off1 cap1 hF u hg hs=>by
  obtain⟨_,_,_,a4,a5⟩:=h.added hF u hg hs;exact⟨a5,⟨a4.aF4,a4.le,a4.aH1⟩,by rcases hg with y|y<;>omega⟩)
 have HH:=hide h;have HL:=hide hL;obtain⟨am,ab⟩:=aP (bE gm om M.length);obtain⟨aw,I⟩:=aP M.length;rw[<-ab,<-I]at G|-
 clear h hB hL H hM N ah hh ab I;go_enter func29,ntmps29;go_wp2_with fail;apply G.o.mono;rintro r w1 ⟨rfl,g1,off1,cap1,R,n,Y,K⟩;obtain⟨t,ae⟩:=aj.o w1 g1 off1 cap1 R n Y K;have HB:=hide (ad.o w1 g1 off1 cap1 R n Y K);have q0:w1.cell? (U Rb 0)=some (E f):=aC t 0 _ rfl;have q1:w1.cell? (U Rb 1)=some (E D):=aC t 1 _ rfl;have HG:=hide ae;have aq:=K.size;have an:Rb<w1.heap.size:=by omega
 go_upto_region 4 with fail;go_cut [6,31] (fun p r wc=>∃(R1 x:Nat) (i:Option Addr) (len l:Nat) (ys:aD) (used:Nat) (nmb:bY),p=(E R1)/\r= .agg #[V (x:Nat), .slice i len l,V used, .string nmb]/\FT k most w Rb w0 g1 off1 cap1 f d D X P (B++M) q lv v nm x (.slice i len l) ys used nmb wc/\wc.heap[R1]? =some (.cells #[V (x:Nat), .slice i len l,V used, .string nmb] 45 (0,0))/\w.heap.size<=R1);case first=>
  go_region_with
   (first
    |(go_at_call 38;apply(HG.o _ ((aU (fun _=>False) w1).drew)).mono;rintro e w2 ⟨x,i,len,l,ys,used,nmb,rfl,b,J⟩;have au:w1.heap.size<=w2.heap.size:=J.size)
    |(go_at_call 38;apply(HG.o _ (((aU (fun _=>False) w1).alloc _).drew)).mono;rintro e w2 ⟨x,i,len,l,ys,used,nmb,rfl,b,J⟩;have a:=(J.at_ (show(w1.alloc (.cells #[V 0, .slice none 0 0,V 0, .string ⟨#[]⟩] 45)).drew.heap[w1.heap.size]? =some _ from aR _ _) (by omega));have af:=aO a;have y0:=aC a 0 _ rfl;have y1:=aC a 1 _ rfl;have y2:=aC a 2 _ rfl;have y3:=aC a 3 _ rfl;have x0:=aJ a 0;have x1:=aJ a 1;have x2:=aJ a 2;have x3:=aJ a 3))
  all_goals
   go_wp2_with fail;go_meet
  all_goals
   first
   |exact⟨w2.heap.size,x,i,len,l,ys,used,nmb,rfl,rfl,b.step HH.o.rs ((aU (fun _=>False) w2).alloc _),aR _ _,by omega⟩
   |exact⟨w1.heap.size,x,i,len,l,ys,used,nmb,rfl,rfl,b.store HH.o.rs a (by omega) (by omega) _ _ _ _⟩
 case rest=>
  obtain⟨R1,x,i,len,l,ys,used,nmb,rfl,rfl,b,a,ax⟩:=hcut;obtain⟨w3,h⟩:=aP wc;subst h;have af:=aO a;have z0:=aC a 0 _ rfl;have z1:=aC a 1 _ rfl;have z2:=aC a 2 _ rfl;have z3:=aC a 3 _ rfl;by_cases hx:x=3
  ·subst hx;have hu:=b.no;subst hu;obtain⟨b1,b2,L⟩:=HB.o;have ai:=hide (Zi w3 Rb f D 3 0 (eP nm) nmb i len l b.2.1 (fun w4 w'=>WrP k most w Rb (B++M) pre Own (.slice i len l) 3 ys w'/\Step (·=f) w4 w') (fun w4 hs hb=>ax1 HH.o b1 b b2 L HL.o hs hb));have C:=hide a;clear b a b1 b2 L HG HB;go_wp2_with fail;apply ai.o.mono;rintro r w5 ⟨rfl,w4,al,ao,A,s⟩;have c:=s.at_ (al.at_ C.o (by omega)) (by omega);have y0:=aC c 0 _ rfl;have y1:=aC c 1 _ rfl;have HW:=hide A;go_wp2_with fail;go_ret2;exact⟨_,3,ys,rfl,HW.o⟩
  ·obtain⟨b1,_⟩:=HB.o;have T:=hide (Te w3 Rb x used _ _ 3 0 (eP nm) nmb i len l hx b.2.1);have aa:=hide b;have C:=hide a;have Q:=hide b1;have ar:((x:Int)==3)=false:=aX.2 (by omega);go_wp2_with fail;apply T.o.mono;rintro r w5 ⟨rfl,s,ac⟩;have A:=ap5 HH.o Q.o aa.o hx s ac;have c:=s.at_ C.o (by omega);have y0:=aC c 0 _ rfl;have y1:=aC c 1 _ rfl;have HW:=hide A;clear A s ac T z0 z1 z2 z3 C c aa Q;go_wp2_with fail;go_quiet (fail);all_goals
    go_wp2_with fail;go_ret2;refine⟨_,x,ys,?_,HW.o.step0 ((aU (fun _=>False) _).drewN _)⟩;rw[aB hx];rfl
def Md (h:as7 k most w Rb B pre e used nm Own)(l:Option Addr)(n i:Nat)(M:aD):Calls prog 29 #[E Rb, .slice l n i] w fun r w'=>∃(vo:aK) (e:Nat) (ys:aD),r= .returned (.tuple #[vo,V ((if e=3 then 0 else e:Nat):Int)])/\WrP k most w Rb (B++M) pre Own vo e ys w':=by
 have k1:w.cell? (U Rb 1)=some (.pointer none):=aC h.blk 1 _ rfl;have k2:w.cell? (U Rb 2)=some (V e):=aC h.blk 2 _ rfl;have m:=aO h.blk;have a:=hide (show WrP k most w Rb (B++M) pre Own (.slice none 0 0) e [] w from by
  refine⟨jJ _ _ _ _,⟨used,nm,Own, .inr ⟨h.blk,h.e3,fun Y=> ?_,h.own,h.rb4⟩,fun j b=> .inl b,fun j b=>by simp[Value.ownBlock]at b⟩,fun _=>False,aU _ _,fun _ x=>x.elim⟩;rw[bG,dB];exact h.all (M++Y))
 have c:=h.e3;clear h;go_enter func29,ntmps29;go_wp2_with fail;go_quiet (fail);all_goals
  go_wp2_with fail;go_ret2;refine⟨_,e,[],?_,a.o.step0 ((aU (fun _=>False) _).drewN _)⟩;rw[aB c];rfl
def ac7 (h:Rd k most w Rb B pre e used nm Own)(c a i:Nat)(M:aD)(o:Go.dM.Src w c a M)(l:a=4611686018427387904->i=0)(m:iR (B++M))(n:(B++M).length<=4000000)(b:most<=1048576):Calls prog 29 #[E Rb, .slice (bE c a M.length) M.length i] w fun r w'=>∃(vo:aK) (e:Nat) (ys:aD),r= .returned (.tuple #[vo,V ((if e=3 then 0 else e:Nat):Int)])/\WrP k most w Rb (B++M) pre Own vo e ys w':=by
 rcases h with⟨rfl,rfl,w0,g,off,cap,f,d,D,X,P,F,q,lv,v,h⟩|h
 ·exact Jv h c a i M o l m n b
 ·exact Md h _ _ _ M
end Go.Proofs.YtbpahojchgpdnaaGreatDoor
namespace Go.dM
open Go Go.RowKit Go.Proofs.YtbpahojchgpdnaaGreatDoor
variable {cap1 e g1 j k most off1 used x:Nat} {w w2 w3 w4:aH} {B B' name out ys:aD} {vo:aK} {nmb:bY}
def TK {n:Nat}{s:GS}{q:Nat}(h:eZ B n s e out q):∀{l i:Nat} {a:aD} {q':Nat},eZ B l s i a q'->e=i/\out=a/\q=q':=by
 induction h with
 |done s h=>
  intro l i a q' c;cases c with
  |done _ _=>exact⟨rfl,rfl,rfl⟩
  |no _ _ _ b _=>exact absurd h b
  |miss _ b _=>exact absurd h b
  |go _ _ _ _ _ _ b _ _=>exact absurd h b
 |no s e out b h=>
  intro l i a q' c;cases c with
  |done _ x=>exact absurd x b
  |no _ _ _ _ x=>rw[h]at x;cases x;exact⟨rfl,rfl,rfl⟩
  |miss _ _ x=>rw[h]at x;cases x
  |go _ _ _ _ _ _ _ x _=>rw[h]at x;cases x
 |miss s b h=>
  intro l i a q' c;cases c with
  |done _ x=>exact absurd x b
  |no _ _ _ _ x=>rw[h]at x;cases x
  |miss _ _ _=>exact⟨rfl,rfl,rfl⟩
  |go _ _ _ _ _ _ _ x _=>rw[h]at x;cases x
 |go n s o e out q b h k ih=>
  intro l i a q' c;cases c with
  |done _ x=>exact absurd x b
  |no _ _ _ _ x=>rw[h]at x;cases x
  |miss _ _ x=>rw[h]at x;cases x
  |go _ _ _ _ _ _ _ x m=>rw[h]at x;cases x;exact ih m
end Go.dM
namespace Go.Proofs.YtbpahojchgpdnaaGreatDoor
open Go.RowKit Go.dM Go.Maps Go.Proofs.Tryz
variable {cap1 e g1 j k most off1 used x:Nat} {w w2 w3 w4:aH} {B B' name out ys:aD} {vo:aK} {nmb:bY}
def Uw {p q:Nat}{l:aD}{ok:Bool}(h:lI B p l ok q):∀{q':Nat} {c:aD} {a:Bool},lI B p c a q'->l=c/\ok=a/\q=q':=by
 induction h with
 |miss p h=>
  intro q' c a b;cases b with
  |miss _ _=>exact⟨rfl,rfl,rfl⟩
  |zero _ x _=>omega
  |more _ _ _ _ x _ _=>omega
 |zero p h i=>
  intro q' c a b;cases b with
  |miss _ _=>omega
  |zero _ x _=>exact⟨rfl,rfl,rfl⟩
  |more _ _ _ _ x y _=>exact absurd i y
 |more p l ok q h i m ih=>
  intro q' c a b;cases b with
  |miss _ _=>omega
  |zero _ x y=>exact absurd y i
  |more _ _ _ _ x y k=>
   obtain⟨rfl,rfl,rfl⟩:=ih k;exact⟨rfl,rfl,rfl⟩
def Uq (K:Nat->aD->Nat->aD->Prop):Prop:=∀e o u n e' o' u' n',K e o u n->K e' o' u' n'->e=e'/\o=o'/\u=u'/\n=n'
def wC (x:Nat)(nm:aD):Uq (qI x nm):=by rintro e o u n c a b i ⟨rfl,rfl,rfl,rfl⟩ ⟨rfl,rfl,rfl,rfl⟩;exact⟨rfl,rfl,rfl,rfl⟩
def qC {c:Prop}[Decidable c]{K L:Nat->aD->Nat->aD->Prop}(l:Uq K)(m:Uq L):Uq (fun e o u n=>if c then K e o u n else L e o u n):=fun e o u n s r p t a b=>by
 by_cases i:c
 ·simp only[aA i]at a b;exact l _ _ _ _ _ _ _ _ a b
 ·simp only[aB i]at a b;exact m _ _ _ _ _ _ _ _ a b
def Np (x:Nat)(o:aD)(y:Nat)(nm:aD):Uq (fun e out used name=>e=x/\out=o/\used=y/\name=nm):=by rintro e o u n c a b i ⟨rfl,rfl,rfl,rfl⟩ ⟨rfl,rfl,rfl,rfl⟩;exact⟨rfl,rfl,rfl,rfl⟩
def aq2 (B:aD)(q:Nat)(o nm:aD):Uq (BZ B q o nm):=by
 rintro e out u n m i p r ⟨a1,a2,a⟩ ⟨b1,b2,b⟩;by_cases c:q+32<=8*B.length
 ·rw[aA c]at a b;by_cases l:aG B q 32=o.length
  ·rw[aA l]at a b;exact⟨a.1.trans b.1.symm,a1.trans b1.symm,a.2.trans b.2.symm,a2.trans b2.symm⟩
  ·rw[aB l]at a b;exact⟨a.1.trans b.1.symm,a1.trans b1.symm,a.2.trans b.2.symm,a2.trans b2.symm⟩
 ·rw[aB c]at a b;exact⟨a.1.trans b.1.symm,a1.trans b1.symm,a.2.trans b.2.symm,a2.trans b2.symm⟩
def ai5 (B:aD)(q:Nat)(o nm:aD):Uq (pF B q o nm):=qC (qC (aq2 _ _ _ _) (Np _ _ _ _)) (Np _ _ _ _)
def av5 {s:GS}{T:Nat->aD->Nat->aD->Nat->aD->Prop}{nm:aD}(t:∀q o,Uq (T q o)):Uq (fun e out used name=>∃n c o1 i,eZ B n s c o1 i/\if c=0 then T i o1 e out used name else e=c/\out=o1/\used=0/\name=nm):=by
 rintro e o u n y z C I ⟨m,c,o1,i,r,a⟩ ⟨H,A,o2,G,l,b⟩;obtain⟨rfl,rfl,rfl⟩:=TK r l;by_cases p:c=0
 ·rw[aA p]at a b;exact t _ _ _ _ _ _ _ _ _ _ a b
 ·rw[aB p]at a b;exact Np _ _ _ _ _ _ _ _ _ _ _ _ a b
def Qg (B:aD)(most p:Nat)(nm:aD):Uq (rY B most p nm):=av5 (fun q o=>ai5 B q o nm)
def Gm (B:aD)(most fl p:Nat)(nm:aD):Uq (jG B most fl p nm):=qC (qC (qC (Qg _ _ _ _) (wC _ _)) (wC _ _)) (Qg _ _ _ _)
def Qp {p:Nat}{T:aD->Nat->Nat->aD->Nat->aD->Prop}{L:Nat->aD->Nat->aD->Prop}(i:∀l q,Uq (T l q))(s:Uq L):Uq (fun e out used name=>∃l ok q,lI B p l ok q/\if ok=true then T l q e out used name else L e out used name):=by
 rintro e o u n t y z A ⟨l,ok,q,m,a⟩ ⟨C,r,q',c,b⟩;obtain⟨rfl,rfl,rfl⟩:=Uw m c;by_cases hk:ok=true
 ·rw[aA hk]at a b;exact i _ _ _ _ _ _ _ _ _ _ a b
 ·rw[aB hk]at a b;exact s _ _ _ _ _ _ _ _ a b
def WO (B:aD)(most fl p:Nat)(nm:aD):Uq (gX B most fl p nm):=qC (Qp (fun _ _=>Gm _ _ _ _ _) (wC _ _)) (Gm _ _ _ _ _)
def YH (B:aD)(most fl p:Nat)(a:aD):Uq (jW B most fl p a):=qC (Qp (fun _ _=>WO _ _ _ _ _) (wC _ _)) (WO _ _ _ _ _)
def ap4 (B:aD)(most fl p left:Nat):Uq (nV B most fl p left):=qC (qC (YH _ _ _ _ _) (wC _ _)) (YH _ _ _ _ _)
def ab4 (B:aD)(most fl p:Nat):Uq (kT B most fl p):=qC (qC (ap4 _ _ _ _ _) (wC _ _)) (YH _ _ _ _ _)
def ae6 (B:aD)(most p:Nat):Uq (jU B most p):=qC (qC (qC (ab4 _ _ _ _) (wC _ _)) (wC _ _)) (wC _ _)
def aA2 (B:aD)(most:Nat):Uq (xA B most):=qC (qC (qC (qC (qC (qC (ae6 _ _ _) (wC _ _)) (wC _ _)) (wC _ _)) (wC _ _)) (wC _ _)) (wC _ _)
def aD7 (B:aD)(most:Nat):Uq (fun e out used name=>xO B most e out used/\name=[]):=by
 have c:∀x:Nat,Uq (fun e out used name=>(e=x/\out=[]/\used=0)/\name=[]):=fun x=>by
  rintro e o u n C G J K ⟨⟨rfl,rfl,rfl⟩,rfl⟩ ⟨⟨rfl,rfl,rfl⟩,rfl⟩;exact⟨rfl,rfl,rfl,rfl⟩
 rintro e o u n C G J K ⟨a,rfl⟩ ⟨b,rfl⟩;unfold xO UK at a b;by_cases l:0+8<=8*B.length
 ·rw[aA l]at a b;by_cases A:vT (aG B 0 8)
  ·rw[aA A]at a b;by_cases s:0+8+8<=8*B.length
   ·rw[aA s]at a b;by_cases t:zC (aG B 0 8) (aG B (0+8) 8)
    ·rw[aA t]at a b;obtain⟨m,H,o1,r,I,a⟩:=a;obtain⟨N,L,o2,M,i,b⟩:=b;obtain⟨rfl,rfl,rfl⟩:=TK I i;by_cases y:H=0
     ·rw[aA y]at a b;obtain⟨a1,a⟩:=a;obtain⟨b1,b⟩:=b;by_cases z:r+32<=8*B.length
      ·rw[aA z]at a b;by_cases p:jB B r 4=dZ 1 o1
       ·rw[aA p]at a b;exact⟨a.1.trans b.1.symm,a1.trans b1.symm,a.2.trans b.2.symm,rfl⟩
       ·rw[aB p]at a b;exact⟨a.1.trans b.1.symm,a1.trans b1.symm,a.2.trans b.2.symm,rfl⟩
      ·rw[aB z]at a b;exact⟨a.1.trans b.1.symm,a1.trans b1.symm,a.2.trans b.2.symm,rfl⟩
     ·rw[aB y]at a b;exact⟨a.1.trans b.1.symm,a.2.1.trans b.2.1.symm,a.2.2.trans b.2.2.symm,rfl⟩
    ·rw[aB t]at a b;exact c 4 _ _ _ _ _ _ _ _ ⟨a,rfl⟩ ⟨b,rfl⟩
   ·rw[aB s]at a b;exact c 3 _ _ _ _ _ _ _ _ ⟨a,rfl⟩ ⟨b,rfl⟩
  ·rw[aB A]at a b;exact c 4 _ _ _ _ _ _ _ _ ⟨a,rfl⟩ ⟨b,rfl⟩
 ·rw[aB l]at a b;exact c 3 _ _ _ _ _ _ _ _ ⟨a,rfl⟩ ⟨b,rfl⟩
def ae4:xV 0 B most e out used name=at5 0 B (qJ most 0) [] e out used name:=by unfold xV dV;rw[aA (show(MJ 0 most).i=bi 0 from rfl)];rfl
def Yd:xV 1 B most e out used name=(((0:Nat)=0/\xO B most e out used)/\name=[]):=by unfold xV dV;rw[aB (show¬(MJ 1 most).i=bi 1 from(by decide:¬(0:Nat)=bi 1)),aB (by omega),aA rfl];rfl
def Yi:xV 2 B most e out used name=((0:Nat)=0/\xA B most e out used name):=by unfold xV;rw[ZF rfl];rfl
def Xu (hk:k<=2)(B:aD)(most:Nat):Uq (xV k B most):=by
 have r:k=0\/k=1\/k=2:=by omega
 rintro e o u n s y A H a b;rcases r with rfl|rfl|rfl
 ·rw[ae4]at a b;obtain⟨m,l,o1,t,p,a⟩:=a;obtain⟨G,z,o2,C,c,b⟩:=b;obtain⟨rfl,rfl,rfl⟩:=TK p c;unfold TL at a b;by_cases i:l=0
  ·rw[aA i,aA rfl]at a b;exact⟨a.1.trans b.1.symm,a.2.1.trans b.2.1.symm,by omega,a.2.2.2.trans b.2.2.2.symm⟩
  ·rw[aB i]at a b;exact⟨a.1.trans b.1.symm,a.2.1.trans b.2.1.symm,a.2.2.1.trans b.2.2.1.symm,a.2.2.2.trans b.2.2.2.symm⟩
 ·rw[Yd]at a b;exact aD7 B most _ _ _ _ _ _ _ _ ⟨a.1.2,a.2⟩ ⟨b.1.2,b.2⟩
 ·rw[Yi]at a b;exact aA2 B most _ _ _ _ _ _ _ _ a.2 b.2
def Xi.start {f d D X P:Nat}{F:Nat->aK}(h:Xi k most w w4 f d D X P F){g off cap:Nat}(l:bL w4)(b:Go.dM.Src w4 g off B)(c:g<f)(i:bN w4 f (.slice (bE g off B.length) B.length cap) 0 0):OG k w4 w4 g off cap f d D X B most (MJ k most) (.slice none 0 0) (.slice none 0 0):=by have c1:=h.rs.f4;have c2:=h.rs.fd;have c3:=h.rs.dD;have c4:=h.rs.DP;have n:=h.rs.PN;exact⟨fun a _ _ o=>rfl,b, .inl c,by omega,l,h.xat,jJ _ _ _ _,fun _=>rfl,i,aS _,fun _=>⟨h.dec,rfl⟩,fun _=> .inl ⟨h.dec,rfl,rfl,rfl,rfl⟩,fun j m=>by simp[Value.ownBlock]at m,fun _=>rfl,iZ _,aS _,_,h.dec⟩
def ag4 (k g off cap:Nat)(most:Int)(B:aD)(w:aH)(hk:k<=2)(hS:Go.dM.Src w g off B)(hg:g<w.heap.size)(hO:bL w)(h4:4<=w.heap.size)(hB:iR B)(hL:B.length<=8388608):Calls prog 25 #[V (k:Nat), .slice (bE g off B.length) B.length cap,V most] w fun r w'=>∃(e:Nat) (out:aD) (used:Nat) (nm:aD) (v':aK),r= .returned (.agg #[V e,v',V used, .string (eP nm)])/\xV k B (asked most) e out used nm/\w'.ownsRow w.heap.size 5 1 v' out.length (jR out)/\O w w':=by
 have aa:=hS.much;have z:=hide (fun f w3 h1 h2=>aB8 k f (asked most) w3 hk h1 h2);have HS:=hide hS;have HO:=hide hO;clear hS hO;go_enter func25,ntmps25;go_wp2_with fail;obtain⟨R,Y⟩:=aP w.heap.size;obtain⟨w1,c⟩:=aP (w.alloc (.cells #[V 0, .slice none 0 0,V 0, .string ⟨#[]⟩] 45));have ad:O w w1:=by rw[c];exact(aU _ _).alloc _
 have I:w1.heap.size=R+1:=by rw[c,Y];simp
 have ab:w1.heap[R]? =some (.cells #[V 0, .slice none 0 0,V 0, .string ⟨#[]⟩] 45 (0,0)):=by rw[c,Y];exact aR _ _
 have aj:w.heap.size<=R:=by omega
 have al:R<=w.heap.size:=by omega
 rw[<-c,<-Y];clear c Y;apply(wS (.slice (bE g off B.length) B.length cap) w1 ⟨_,_,_,rfl⟩).mono;rintro e1 w2 ⟨rfl,n⟩;rw[I];have am:w2.heap.size=R+1+1:=by rw[n];simp[I]
 have J:O w1 w2:=by rw[n];exact(aU _ _).alloc _
 have N:w2.heap[R+1]? =some (.cells #[.slice (bE g off B.length) B.length cap,V ((0:Nat):Int),V ((0:Nat):Int)] 91 (0,0)):=by rw[n,<-I];exact aR _ _
 clear n;go_wp2_with fail;apply(Ac most w2).mono;rintro e2 w3 ⟨rfl,rfl⟩;have L:=ad.trans J;have HN:=hide (z.o (R+1) w3 (by omega) (by omega));have ac:=hide N;clear N z;go_wp2_with fail;apply HN.o.mono;rintro e2 w4 ⟨d,D,X,P,F,rfl,m⟩;have t:=m.step;have ai:=t.size;have b:=L.trans t;have Q:=(J.trans t).at_ ab (fun x=>x);have ah:=m.low;have S:=hide (show Calls prog 38 #[E D, .pointer (some ⟨R+1,0,none⟩)] w4 fun r w5=>∃(x:Nat) (vo:aK) (ys:aD) (used:Nat) (nm:aD),r= .returned (.agg #[V (x:Nat),vo,V used, .string (eP nm)])/\Taken w5 w4.heap.size vo ys/\Step (fun j=>R+1<=j) w4 w5/\xV k B (asked most) x ys used nm from by
  have c2:=m.rs.fd;have c3:=m.rs.dD;have c4:=m.rs.DP;have K:RV k ([]++B) (asked most) (MJ k (asked most)):=(RV.start k (asked most)).more (iZ _) B;rw[iO]at K;apply(a97 m.rs (m.start (HO.o.step b (fun _ _ x=>x)) (HS.o.step b (fun x=>x)) (by omega) (t.at_ ac.o (fun x=>x))) m.wrap K rfl hB hL (vW most)).mono;rintro r w5 ⟨x,vo,ys,used,nmb,pt,rfl,a1,_,a3,ae,rfl,a5,_⟩;refine⟨x,vo,ys,used,ae,rfl,a1,a3.mono (fun j hj=> ?_),a5⟩;rcases hj with y|y|y|y|y|y
  ·omega
  ·omega
  ·omega
  ·by_cases k0:k=0
   ·have:=m.rs.X0 k0;omega
   ·have:=m.rs.XP k0;omega
  ·simp[Value.ownBlock]at y
  ·simp[Value.ownBlock]at y)
 have A:=hide b;go_wp2_with fail;apply S.o.mono;rintro r w5 ⟨e,vo,out,used,nm,rfl,s,l,u⟩;obtain⟨va,vc,hv⟩:=s.slice;have a:=l.at_ Q (by omega);have q0:w5.cell? (U R 0)=some (V 0):=aC a 0 _ rfl;have q1:w5.cell? (U R 1)=some (.slice none 0 0):=aC a 1 _ rfl;have q2:w5.cell? (U R 2)=some (V 0):=aC a 2 _ rfl;have q3:w5.cell? (U R 3)=some (.string ⟨#[]⟩):=aC a 3 _ rfl;have g0:=aJ a 0;have g1:=aJ a 1;have g2:=aJ a 2;have g3:=aJ a 3;have ak:=aO a;have M:vo.ownBlock≠some R:=kR s a (by decide);have H:=hide M;have G:=hide s;have T:=hide u;have Z:=hide (show O w w5 from A.o.trans' l (fun k hk x=>by omega));rw[hv]at G H;rw[hv];obtain⟨len,i⟩:=aP out.length;have ag:=hide i;rw[<-i]at G H|-
 clear s l hv M Q a S A u i;generalize W:eP nm=nmb;have af:=hide W;clear W;go_wp2_with fail
 have C:Step (·=R) w5 ((((w5.setCell (U R 0) (V e)).setCell (U R 1) (.slice va len vc)).setCell (U R 2) (V used)).setCell (U R 3) (.string nmb)):=
  ((((aU (·=R) w5).setCell (p:=(U R 0)) rfl _).setCell (p:=(U R 1)) rfl _).setCell (p:=(U R 2)) rfl _).setCell (p:=(U R 3)) rfl _
 refine aY (v:= .agg #[V e, .slice va len vc,V used, .string nmb]) (by simp[results,results25,go_sem,q0,q1,q2,q3]) rfl ⟨e,out,used,nm, .slice va len vc,by rw[af.o],T.o,?_,?_⟩
 ·exact bH (fJ G.o C (fun j hj x=>H.o (by rw[hj,x]))) (by omega)
 ·exact Z.o.trans' C (fun k hk x=>by omega)
end Go.Proofs.YtbpahojchgpdnaaGreatDoor
