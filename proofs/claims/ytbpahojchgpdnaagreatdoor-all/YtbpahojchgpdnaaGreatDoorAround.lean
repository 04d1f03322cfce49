import Derived.Test.YtbpahojchgpdnaaGreatDoorSinks
import Derived.Test.YtbpahojchgpdnaaGreatDoorGCoding
set_option maxRecDepth 20000
set_option maxHeartbeats 4000000
set_option linter.all false
namespace Go.Proofs.YtbpahojchgpdnaaGreatDoor
open Go.RowKit Go.dM Go.Proofs.Tryz
variable {B L P X ys:aD} {w w' w0:aH} {base cap d f g k n off p q z:Nat} {ub up v v' v0:aK}
def al2 (n:Nat)(h:n%8=0):dW n=[]:=by unfold dW;rw[List.replicate_eq_nil_iff];omega
def zU (x y:aD):dA (x++y)=dA x++dA y:=by simp[dA]
def SkB (w:aH)(k base:Nat)(v:aK)(X:aD):Prop:=Sk w k base v (dA X)
def Cy (k base:Nat)(v u:aK)(X ys:aD)(w:aH)(h:SkB w k base v X)(m:tZ w u ys)(o:∀y∈ys,y<256)(r:X.length+ys.length<8000000000000)(a:base<=w.heap.size)(b:∀j off n c,u= .slice (some (U j off)) n c->j≠k):Calls prog 58 #[E k,u] w fun e w'=>e= .returned (.tuple #[])/\∃v',SkB w' k base v' (X++ys)/\dH k w v w' v':=by refine(Qt k base v u (dA X) ys w h m o (by rw[iA];omega) a b).mono ?_;rintro e w1 ⟨rfl,v1,l,i⟩;rw[al2 _ (by rw[iA];omega),bG,<-zU]at l;exact⟨rfl,v1,l,i⟩
def BG (x m n:Nat):numBits x (m+n)=numBits x m++numBits (x/2^m) n:=by
 induction n with
 |zero=>simp[numBits]
 |succ n ih=>
  rw[<-iV,uX,ih,uX,dB,Nat.div_div_eq_div_mul,<-oZ]
def wV (x:Nat):numBits x 8=numBits (x%256) 8:=by
 unfold numBits;refine IY fun i hi=> ?_;rw[GN]at hi;have h:x%256/2^i%2=x/2^i%2:=by
  rw[show(256:Nat)=2^i*2^(8-i) by rw[<-oZ,show i+(8-i)=8 by omega]];rw[Nat.mod_mul_right_div_self];obtain⟨j,a⟩:∃j,8-i=j+1:=⟨8-i-1,by omega⟩
  rw[a,gW,Nat.mod_mul_left_mod]
 rw[h]
def ET (x:Nat):aD:=[x%256,x/256%256,x/65536%256,x/16777216%256]
def Cq (x:Nat):numBits x 32=dA (ET x):=by
 have h:=BG x 8 24;have c:=BG (x/2^8) 8 16;have e:=BG (x/2^8/2^8) 8 8;rw[h,c,e,wV x,wV (x/2^8),wV (x/2^8/2^8),wV (x/2^8/2^8/2^8)];have a:x/2^8=x/256:=rfl;have b:x/256/2^8=x/65536:=by omega
 have e3:x/65536/2^8=x/16777216:=by omega
 rw[a,b,e3];simp[dA,ET]
def aw4 (k base x:Nat)(v:aK)(X:aD)(w:aH)(h:SkB w k base v X)(i:x<4611686018427387904)(j:X.length<8000000000000)(a:base<=w.heap.size):Calls prog 93 #[E k,V x,V 32] w fun e w'=>e= .returned (.tuple #[])/\∃v',SkB w' k base v' (X++ET x)/\dH k w v w' v':=by refine(IG k base x 32 v (dA X) w h i (by omega) (by rw[iA];omega) a).mono ?_;rintro e w1 ⟨rfl,v1,c,b⟩;rw[Cq,<-zU]at c;exact⟨rfl,v1,c,b⟩
def Zz {a b:Nat}(t:a<256)(u:b<256)(h:∀i,i<8->a/2^i%2=b/2^i%2):a=b:=by have c:=h 0 (by omega);have e:=h 1 (by omega);have j:=h 2 (by omega);have l:=h 3 (by omega);have m:=h 4 (by omega);have o:=h 5 (by omega);have r:=h 6 (by omega);have s:=h 7 (by omega);simp only[Nat.pow_zero,Nat.div_one,Nat.reducePow]at c e j l m o r s;omega
def Zx {l:List Bool}{b:aD}(h:bQ l B)(m:bQ l b)(t:B.length=b.length):B=b:=by refine List.ext_getElem t fun i o r=> ?_;have s:=h.byte i;have a:=m.byte i;rw[bV o]at s;rw[bV r]at a;refine Zz s a fun j u=> ?_;have c:=h.bit (8*i+j);have e:=m.bit (8*i+j);unfold bK at c e;rw[show(8*i+j)/8=i by omega,show(8*i+j)%8=j by omega,bV o]at c;rw[show(8*i+j)/8=i by omega,show(8*i+j)%8=j by omega,bV r]at e;exact c.trans e.symm
def SkB.own (h:SkB w k base v X)(i:∀x∈X,x<256):w.ownsRow base 5 1 v X.length (jR X):=by
 obtain⟨B,a⟩:=h;have c:=QS bQ.nil rfl X i;rw[iO,iO]at c;have e:B.length=X.length:=by have:=a.len;rw[iA]at this;omega
 have b:=Zx a.bits c e;rw[<-b];exact a.own
def OO (x:Nat):aD:=[x/16777216,x/65536%256,x/256%256,x%256]
def lK (P ys:aD):aD:=[120,1]++P++OO (dZ 1 ys)
def lJ (P ys:aD):aD:=[31,139,8]++List.replicate 7 0++P++ET (aL 0 ys)++ET ys.length
structure Q5 (w:aH)(k base:Nat)(u:aK)(ys:aD):Prop where
 bytes:tZ w u ys
 byte:∀y∈ys,y<256
 far:∀j off n c,u= .slice (some (U j off)) n c->j<k
 len:ys.length<=100000000
def Q5.go {u:aK}{c:List Bool}(h:Q5 w k base u ys)(hs:Sk w k base v c)(m:k<base)(o:dH k w v w' v'):Q5 w' k base u ys:=by
 refine⟨?_,h.byte,h.far,h.len⟩;rcases h.bytes with l|⟨j,off,cap,b,a⟩
 ·exact .inl l
 ·refine .inr ⟨j,off,cap,b,fun i hi=>o.step.cell (p:=⟨j,off+i,none⟩) (a i hi) (fun y=> ?_)⟩;have r:=h.far j off _ _ b;rcases y with y|y
  ·have y:j=k:=y;omega
  ·obtain⟨B,e⟩:=hs;have:=(e.own.lt j y).1;omega
def Sk.step0 {a:List Bool}(h:Sk w k base v a)(hs:O w w'):Sk w' k base v a:=by obtain⟨B,h⟩:=h;exact⟨B,hs.at_ h.blk (fun y=>y),bX h.own (fun j b=>hs.block j (h.own.lt j b).2 (fun y=>y)),h.bits,h.len,h.apart⟩
def aD4 (v:aK)(h:O w w'):dH k w v w' v:=⟨h.mono (fun _ y=>y.elim),fun _ a=> .inl a⟩
def Um (w:aH)(A:Array aK)(ys:aD)(b:∀i,i<ys.length->A[i]? =some (.int .u8 (ys[i]?.getD 0:Nat)))(c:Nat):tZ (w.alloc (.cells A 5)) (.slice (some (U w.heap.size 0)) ys.length c) ys:=by refine .inr ⟨w.heap.size,0,c,rfl,fun i hi=> ?_⟩;have a:=b i hi;rw[dS];exact aC (aR w _) i _ a
structure XD (w0 w:aH)(k base:Nat)(v0 v:aK)(X:aD)(up:aK)(P:aD)(ub:aK)(ys:aD):Prop where
 sk:SkB w k base v X
 wrt:dH k w0 v0 w v
 p:Q5 w k base up P
 b:Q5 w k base ub ys
 kb:k<base
 le:base<=w.heap.size
 few:X.length<=200000000
def XD.more {w1:aH}{v1:aK}{c:aD}(h:XD w0 w k base v0 v X up P ub ys)(e:SkB w1 k base v1 c)(a:dH k w v w1 v1)(i:c.length<=200000000):XD w0 w1 k base v0 v1 c up P ub ys:=⟨e,h.wrt.trans a,h.p.go h.sk h.kb a,h.b.go h.sk h.kb a,h.kb,bB h.le a.step.size,i⟩
def XD.lit (h:XD w0 w k base v0 v X up P ub ys)(A:Array aK)(L:aD)(c:Nat)(o:∀y∈L,y<256)(hn:L.length<=100)(u:X.length<=199999000)(r:∀i,i<L.length->A[i]? =some (.int .u8 (L[i]?.getD 0:Nat))):Calls prog 58 #[.pointer (some ⟨k,0,none⟩), .slice (some ⟨w.heap.size,0,none⟩) L.length c] (w.alloc (.cells A 5)) fun e w'=>e= .returned (.tuple #[])/\∃v',XD w0 w' k base v0 v' (X++L) up P ub ys:=by
 have a:O w (w.alloc (.cells A 5)):=(aU _ _).alloc _;have s:k<w.heap.size:=Sk.lt h.sk;have x:=h.few;refine(Cy k base v _ X L _ (Sk.step0 h.sk a) (Um w A L r c) o (by omega) (bB h.le a.size) (fun j off n t l=>by
  simp only[nK,fH,wG,jX]at l;rw[<-l.1.1];omega)).mono ?_
 rintro e w1 ⟨rfl,v1,m,b⟩;exact⟨rfl,v1,h.more m ((aD4 v a).trans b) (by rw[aN];omega)⟩
def XD.packed (h:XD w0 w k base v0 v X up P ub ys)(m:X.length<=1000):Calls prog 58 #[E k,up] w fun e w'=>e= .returned (.tuple #[])/\∃v',XD w0 w' k base v0 v' (X++P) up P ub ys:=by have i:=h.p.len;refine(Cy k base v up X P w h.sk h.p.bytes h.p.byte (by omega) h.le (fun j off n c l=>by have:=h.p.far j off n c l;omega)).mono ?_;rintro e w1 ⟨rfl,v1,b,a⟩;exact⟨rfl,v1,h.more b a (by rw[aN];omega)⟩
def XD.num (h:XD w0 w k base v0 v X up P ub ys)(x:Nat)(c:x<4611686018427387904)(i:X.length<=199999000):Calls prog 93 #[E k,V x,V 32] w fun e w'=>e= .returned (.tuple #[])/\∃v',XD w0 w' k base v0 v' (X++ET x) up P ub ys:=by apply(aw4 k base x v X w h.sk c (by omega) h.le).mono;rintro e w1 ⟨rfl,v1,b,a⟩;exact⟨rfl,v1,h.more b a (by rw[aN];simp[ET];omega)⟩
def JG {u:aK}(h:Q5 w k base u ys):∃a c,u= .slice a ys.length c:=by
 rcases h.bytes with⟨a,c,rfl,rfl⟩|⟨j,off,cap,rfl,_⟩
 ·exact⟨a,c,rfl⟩
 ·exact⟨_,_,rfl⟩
def WH (k base:Nat)(v up ub:aK)(P ys:aD)(w:aH)(h:XD w w k base v v [] up P ub ys):Calls prog 56 #[.pointer (some ⟨k,0,none⟩),up,ub] w fun e w'=>e= .returned (.tuple #[])/\∃v',XD w w' k base v v' (lK P ys) up P ub ys:=by
 have J:=hide (h.lit #[.int .u8 120, .int .u8 1] [120,1] 2 (by intro y I;simp at I;omega) (by simp) (by simp) (fun i hi=>by
  match i,hi with
  |0,_=>rfl
  |1,_=>rfl))
 have G:=h.b.len;have H:=h.p.len;obtain⟨pa,pc,c⟩:=JG h.p;obtain⟨W,Y,a⟩:=JG h.b;have T:=hide c;have R:=hide a;clear h;obtain⟨pn,l⟩:=aP P.length;obtain⟨Z,j⟩:=aP ys.length;rw[<-l]at c H;rw[<-j]at a G;have x:=hide l;have u:=hide j;clear l j;rw[c,a];go_enter func56,ntmps56;go_wp2_with fail;apply J.o.mono;rintro r w1 ⟨rfl,v1,M⟩;have t:=hide (M.packed (by simp));rw[c]at t;clear J M;go_wp2_with fail;apply t.o.mono;rintro r w2 ⟨rfl,v2,m⟩;have A:=hide (N7 1 ub ys w2 (by decide) m.b.bytes m.b.byte (by have:=u.o;omega));have F:=vB 1 (by decide) ys;rw[a]at A;have Q:=hide m;obtain⟨s,hs⟩:=aP (dZ 1 ys);rw[<-hs]at A F;have C:=hide hs;clear t m hs;go_wp2_with fail;apply A.o.mono;rintro r w3 ⟨rfl,rfl⟩;have K:=hide (Q.o.lit #[.int .u8 ((s:Int)/16777216), .int .u8 ((s:Int)/65536%256), .int .u8 ((s:Int)/256%256), .int .u8 ((s:Int)%256)] (OO s) 4 (by intro y I;simp[OO]at I;omega) (by simp[OO]) (by have:=x.o;simp;omega) (fun i hi=>by
  match i,hi with
  |0,_=>simp[OO]
  |1,_=>simp[OO]
  |2,_=>simp[OO]
  |3,_=>simp[OO]))
 go_wp2_with fail;apply K.o.mono;rintro r w4 ⟨rfl,N,D⟩;have S:=hide (show XD w w4 k base v N (lK P ys) (.slice pa pn pc) P (.slice W Z Y) ys from by
  unfold lK;rw[<-C.o];rw[a,iO]at D;exact D)
 clear D K;go_wp2_with fail;go_end0;exact⟨rfl,N,S.o⟩
def V7 (k base:Nat)(v up ub:aK)(P ys:aD)(w:aH)(h:XD w w k base v v [] up P ub ys):Calls prog 57 #[.pointer (some ⟨k,0,none⟩),up,ub] w fun e w'=>e= .returned (.tuple #[])/\∃v',XD w w' k base v v' (lJ P ys) up P ub ys:=by
 have R:=hide (h.lit #[.int .u8 31, .int .u8 139, .int .u8 8] [31,139,8] 3 (by intro y K;simp at K;omega) (by simp) (by simp) (fun i hi=>by
  match i,hi with
  |0,_=>rfl
  |1,_=>rfl
  |2,_=>rfl))
 have F:=h.b.len;have J:=h.p.len;obtain⟨pa,pc,j⟩:=JG h.p;obtain⟨ba,bc,a⟩:=JG h.b;have ab:=hide j;have aa:=hide a;clear h;obtain⟨pn,m⟩:=aP P.length;obtain⟨Y,l⟩:=aP ys.length;rw[<-m]at j J;rw[<-l]at a F;have t:=hide m;have s:=hide l;clear m l;rw[j,a];go_enter func57,ntmps57;go_wp2_with fail;apply R.o.mono;rintro r w1 ⟨rfl,v1,Z⟩;have I:(Instr.makeSlice 31 (.int .i64 7) (.int .i64 7)).run prog w1= .ok (.slice (some ⟨w1.heap.size,0,none⟩) 7 7) (w1.alloc (.cells #[.int .u8 0, .int .u8 0, .int .u8 0, .int .u8 0, .int .u8 0, .int .u8 0, .int .u8 0] 5)):=by
  obtain⟨i0,hi,M,N,Q⟩:=eD info5;have h9:=run_make (P:=prog) w1 31 5 i0 (.int .u8 0) underlying31 hi M .i64 .i64 7 7 (by omega) (by omega) (by rw[Q];decide) (by omega);have e:madeCells (Value.int .u8 0).cells (Int.toNat 7*1)=#[.int .u8 0, .int .u8 0, .int .u8 0, .int .u8 0, .int .u8 0, .int .u8 0, .int .u8 0]:=by kernel_rfl
  rw[N,e]at h9;exact h9
 have S:=hide (Z.lit #[.int .u8 0, .int .u8 0, .int .u8 0, .int .u8 0, .int .u8 0, .int .u8 0, .int .u8 0] (List.replicate 7 0) 7 (by intro y K;simp at K;omega) (by simp) (by simp) (fun i hi=>by
  match i,hi with
  |0,_=>rfl
  |1,_=>rfl
  |2,_=>rfl
  |3,_=>rfl
  |4,_=>rfl
  |5,_=>rfl
  |6,_=>rfl))
 clear R Z;go_wp2_with fail;apply S.o.mono;rintro r w2 ⟨rfl,v2,h2⟩;have x:=hide (h2.packed (by simp));rw[j]at x;clear S h2 I;go_wp2_with fail;apply x.o.mono;rintro r w3 ⟨rfl,v3,u⟩;have A:=hide (tC 0 ub ys w3 (by decide) u.b.bytes u.b.byte (by have:=s.o;omega));have H:=iW 0 ys;rw[a]at A;obtain⟨c,G⟩:=aP (aL 0 ys);rw[<-G]at A H;have C:=hide G;have T:=hide (u.num c (by omega) (by have:=t.o;simp;omega));clear x u G;go_wp2_with fail;apply A.o.mono;rintro r w4 ⟨rfl,rfl⟩;go_wp2_with fail;apply T.o.mono;rintro r w5 ⟨rfl,v5,h5⟩;have W:=hide (h5.num Y (by omega) (by have:=t.o;simp[ET];omega));clear T h5;go_wp2_with fail;apply W.o.mono;rintro r w6 ⟨rfl,v6,D⟩;have HF:=hide (show XD w w6 k base v v6 (lJ P ys) (.slice pa pn pc) P (.slice ba Y bc) ys from by
  unfold lJ;rw[<-C.o,<-s.o];rw[a,iO]at D;exact D)
 clear D W;go_wp2_with fail;go_end0;exact⟨rfl,v6,HF.o⟩
def iM (kind:Nat)(P ys:aD):aD:=if kind=1 then lK P ys else if kind=2 then lJ P ys else P
structure IX (w:aH)(u:aK)(ys:aD):Prop where
 bytes:tZ w u ys
 byte:∀y∈ys,y<256
 old:∀j off n c,u= .slice (some (U j off)) n c->j<w.heap.size
 len:ys.length<=100000000
def MP (kind:Nat)(P ys:aD)(hP:∀y∈P,y<256):∀y∈iM kind P ys,y<256:=by
 intro y a;unfold iM at a;split at a
 ·have b:=vB 1 (by decide) ys;simp only[lK,OO,iF,fE,wQ,or_false]at a;rcases a with((rfl|rfl)|a)|rfl|rfl|rfl|rfl
  ·decide
  ·decide
  ·exact hP y a
  ·omega
  ·omega
  ·omega
  ·omega
 ·split at a
  ·simp only[lJ,ET,iF,fE,List.mem_replicate,wQ,or_false]at a;rcases a with((((rfl|rfl|rfl)|⟨_,rfl⟩)|a)|rfl|rfl|rfl|rfl)|rfl|rfl|rfl|rfl
   ·decide
   ·decide
   ·decide
   ·decide
   ·exact hP y a
   all_goals omega
  ·exact hP y a
def Vr (kind:Nat)(hk:kind<=2)(up ub:aK)(P ys:aD)(w:aH)(hp:IX w up P)(D:IX w ub ys):Calls prog 39 #[V kind,up,ub] w fun e w'=>∃v',e= .returned v'/\w'.ownsRow w.heap.size 5 1 v' (iM kind P ys).length (jR (iM kind P ys))/\O w w':=by
 obtain⟨pa,pc,J⟩:∃a c,up= .slice a P.length c:=by
  rcases hp.bytes with⟨a,c,rfl,rfl⟩|⟨j,off,cap,rfl,_⟩
  ·exact⟨a,c,rfl⟩
  ·exact⟨_,_,rfl⟩
 obtain⟨ba,bc,G⟩:∃a c,ub= .slice a ys.length c:=by
  rcases D.bytes with⟨a,c,rfl,rfl⟩|⟨j,off,cap,rfl,_⟩
  ·exact⟨a,c,rfl⟩
  ·exact⟨_,_,rfl⟩
 obtain⟨w1,b⟩:=aP (w.alloc (.cells #[.slice none 0 0,V 0] 103));obtain⟨k,l⟩:=aP w.heap.size;have x:O w w1:=by rw[b];exact(aU _ _).alloc _
 have N:w1.heap.size=k+1:=by rw[b,l];simp
 have H:w1.heap[k]? =some (.cells #[.slice none 0 0,V 0] 103 (0,0)):=by rw[b,l];exact aR _ _
 have A:∀u R,IX w u R->Q5 w1 k (k+1) u R:=fun u R h=>by
  refine⟨?_,h.byte,fun j off n c hu=>by have:=h.old j off n c hu;omega,h.len⟩;rcases h.bytes with D|⟨j,off,cap,K,M⟩
  ·exact .inl D
  ·exact .inr ⟨j,off,cap,K,fun i hi=>x.cell (p:=⟨j,off+i,none⟩) (M i hi) (fun y=>y)⟩
 have m:XD w1 w1 k (k+1) (.slice none 0 0) (.slice none 0 0) [] up P ub ys:=⟨⟨[],H,jJ _ _ _ _,bQ.nil,rfl,by omega⟩,dH.refl _ _ _,A _ _ hp,A _ _ D,by omega,by omega,by simp⟩
 have C:=hide (show∀(X:aD) (w':aH) (v':aK),X=iM kind P ys->XD w1 w' k (k+1) (.slice none 0 0) v' X up P ub ys->(∃a n c,v'= .slice a n c)/\Calls prog 59 #[E k] w' (fun e Q=>e= .returned v'/\Q=w')/\w'.ownsRow w.heap.size 5 1 v' (iM kind P ys).length (jR (iM kind P ys))/\O w w' from fun X w' v' hX h=>by
  subst hX;have s:=h.sk.own (MP kind P ys hp.byte);refine⟨?_,Oz k (k+1) v' _ w' h.sk,bH s (by omega),x.trans' h.wrt.step (fun i hi y=> ?_)⟩
  ·obtain⟨_,⟨K,_⟩|⟨g,cap,_,K,_⟩⟩:=s
   ·exact⟨_,_,_,K⟩
   ·exact⟨_,_,_,K⟩
  ·rcases y with y|y
   ·omega
   ·cases y)
 have aa:=hide m;have ac:=hide b;have ab:=hide l;have t:kind=0\/kind=1\/kind=2:=by omega
 have S:=hide (m.packed (by simp));have T:=hide (WH k (k+1) (.slice none 0 0) up ub P ys w1 m);have W:=hide (V7 k (k+1) (.slice none 0 0) up ub P ys w1 m);obtain⟨pn,I⟩:=aP P.length;obtain⟨bn,F⟩:=aP ys.length;rw[<-I]at J;rw[<-F]at G;subst J G;clear hp D A m x N H I F;rcases t with rfl|rfl|rfl;focus
  go_enter func39,ntmps39;go_wp2_with fail;rw[<-b,<-l];clear b l;apply S.o.mono
 rotate_left;focus
  go_enter func39,ntmps39;go_wp2_with fail;rw[<-b,<-l];clear b l;apply T.o.mono
 rotate_left;focus
  go_enter func39,ntmps39;go_wp2_with fail;rw[<-b,<-l];clear b l;apply W.o.mono
 all_goals
  rintro r w2 ⟨rfl,v2,Y⟩;obtain⟨⟨va,vn,vc,rfl⟩,hO,Z⟩:=C.o _ w2 v2 (by simp[iM]) Y;have HO:=hide hO;have HF:=hide Z;clear Y hO Z S T W;go_wp2_with fail;apply HO.o.mono;rintro r w3 ⟨rfl,rfl⟩;go_wp2_with fail;go_ret;exact⟨_,rfl,HF.o⟩
open Go.Maps
def Wm (w:aH)(d f:Nat)(v:aK)(x:aK)(D:d9):Prop:=(x= .map none/\D.longest=0)\/∃mb,x= .map (some mb)/\TabAt w mb D.tab/\tK d f v mb
def Wm.step {x:aK}{D:d9}(h:Wm w d f v x D)(hs:fC d f w v w' v'):Wm w' d f v' x D:=by
 rcases h with h|⟨mb,c,a,b⟩
 ·exact .inl h
 ·exact .inr ⟨mb,c,a.step hs.step b.not,b.step a.lt hs⟩
def PX (w:aH)(d f:Nat)(v fx:aK):Prop:=
 fx= .pointer none\/∃cb m1 m2,fx=(E cb)/\w.heap[cb]? =some (.cells #[.map (some m1),V ((aI gK).longest:Nat), .map (some m2),V ((aI fM).longest:Nat)] 125 (0,0))/\TabAt w m1 (aI gK).tab/\TabAt w m2 (aI fM).tab/\tK d f v cb/\tK d f v m1/\tK d f v m2
def PX.step {fx:aK}(h:PX w d f v fx)(hs:fC d f w v w' v'):PX w' d f v' fx:=by
 rcases h with h|⟨l,m1,m2,m,a,b,c,e,i,j⟩
 ·exact .inl h
 ·exact .inr ⟨l,m1,m2,m,hs.step.at_ a e.not,b.step hs.step i.not,c.step hs.step j.not,e.step (aO a) hs,i.step b.lt hs,j.step c.lt hs⟩
structure WB (w:aH)(d f:Nat)(v:aK)(st:iH)(ls ld:aD):Prop where
 sm:∃mb,st.sm= .map (some mb)/\TabAt w mb (aI ls).tab/\tK d f v mb
 sl:st.sl=(aI ls).longest
 dm:∃x,st.dm= .map x/\Wm w d f v (.map x) (aI ld)
 dl:st.dl=(aI ld).longest
 sn:ls.length<=1000
 dn:ld.length<=1000
def WB.step {st st':iH}{ls ld:aD}(h:WB w d f v st ls ld)(hs:fC d f w v w' v')(b:st'.sm=st.sm)(c:st'.sl=st.sl)(e3:st'.dm=st.dm)(e:st'.dl=st.dl):WB w' d f v' st' ls ld:=by obtain⟨mb,a1,a2,a⟩:=h.sm;obtain⟨x,b1,b2⟩:=h.dm;exact⟨⟨mb,b.trans a1,a2.step hs.step a.not,a.step a2.lt hs⟩,c.trans h.sl,⟨x,e3.trans b1,b2.step hs⟩,e.trans h.dl,h.sn,h.dn⟩
structure dJ (w:aH)(d f base g off cap z:Nat)(B:aD)(s:GS)(v:aK):Prop where
 ex:∃st:iH,st.v=v/\mF w d f base g off cap z B st s.p/\sG st s.taken s.out/\st.room+s.out.length=s.most/\st.place=s.place/\st.last=s.last/\st.left=s.left/\(∃x,st.sm= .map x)/\(∃x,st.dm= .map x)/\PX w d f v st.fx/\(s.place=2->WB w d f v st s.ls s.ld)
 order:bL w
 zero:4<=d/\4<=f
 zlt:4<=w.heap.size
 most:s.most<=1048576
 room:s.out.length<=s.most
 left:s.left<=65535
 bits:s.p<=8*B.length
def dJ.aw7 {s:GS}(h:dJ w d f base g off cap z B s v):∀k,k<4->¬(k=d\/k=f\/v.ownBlock=some k):=by
 obtain⟨st,c,b,_⟩:=h.ex;have e:=h.zero;have i:=b.dec.ag2;intro k hk a;rcases a with a|a|a
 ·omega
 ·omega
 ·rw[<-c]at a;have:=(b.dec.own.lt k a).1;omega
def dJ.after {s s':GS}{st:iH}(h:dJ w d f base g off cap z B s v)(y:mF w' d f base g off cap z B st s'.p)(a:fC d f w v w' v')(C:st.v=v')(b:sG st s'.taken s'.out)(c:st.room+s'.out.length=s'.most)(e3:st.place=s'.place)(e:st.last=s'.last)(i:st.left=s'.left)(j:∃x,st.sm= .map x)(l:∃x,st.dm= .map x)(m:PX w' d f v' st.fx)(o:s'.place=2->WB w' d f v' st s'.ls s'.ld)(u:s'.most=s.most)(A:s'.out.length<=s'.most)(t:s'.left<=65535)(r:s'.p<=8*B.length):dJ w' d f base g off cap z B s' v':=⟨⟨st,C,y,b,c,e3,e,i,j,l,m,o⟩,h.order.step a.step h.aw7,h.zero,bB h.zlt a.step.size,by rw[u];exact h.most,A,t,r⟩
def YS (a:L.length<=1000):∀c s,(aI L).tab c=some s->s<100000:=fun c s h=>by
 have:=((l8 L 15 c s).1 h).1
 omega
def pY (L:aD):(aI L).longest<=15:=wM L 15
def QA (w:aH)(d f base g off cap z:Nat)(B:aD)(s:GS)(v:aK)(q:Nat):Prop:=
 ∃st:iH,st.v=v/\mF w d f base g off cap z B st q/\sG st s.taken s.out/\st.room+s.out.length=s.most/\st.place=s.place/\st.last=s.last/\st.left=s.left/\(∃x,st.sm= .map x)/\(∃x,st.dm= .map x)/\PX w d f v st.fx/\(s.place=2->WB w d f v st s.ls s.ld)
def I8 (r:G)(d f base g off cap z:Nat)(B:aD)(s:GS)(w:aH)(v:aK)(e:Ending)(w':aH):Prop:=
 match r with
 | .go s'=>e= .returned (V 0)/\∃v',dJ w' d f base g off cap z B s' v'/\fC d f w v w' v'
 | .no x out=>e= .returned (V (x:Nat))/\x≠0/\∃st q,sG st s.taken out/\mF w' d f base g off cap z B st q/\fC d f w v w' st.v
 | .miss=>e=lost/\∃l q,(s.place=1\/s.place=2->l=s.last)/\QA w' d f base g off cap z B { s with last:=l } v q/\fC d f w v w' v
end Go.Proofs.YtbpahojchgpdnaaGreatDoor
namespace Go.Proofs.YtbpahojchgpdnaaGreatDoor
open Go.RowKit Go.dM Go.Proofs.Tryz
variable {B L P X ys:aD} {w w' w0:aH} {base cap d f g k n off p q z:Nat} {ub up v v' v0:aK}
def YW (way:Nat)(ys:aD)(bits:List Bool):Prop:=∀(u:aK) (w:aH),BytesIn w u ys->bL w->4<=w.heap.size->
 Calls prog 40 #[V (way:Nat),u] w fun e w'=>∃v',e= .returned v'/\oI w w' v' bits
def y8 {xs:List aK}(h:w.ownsRow base 5 1 v n xs):∃a c,v= .slice a n c:=by
 obtain⟨_,⟨b,hn⟩|⟨g,cap,_,b,_⟩⟩:=h
 ·exact⟨none,0,by rw[b,hn]⟩
 ·exact⟨_,_,b⟩
def O0 (ys:aD)(bits:List Bool)(l:wH 0 ys bits):YW 0 ys bits:=by intro u w c _ _;have e:=hide (EP u ys bits w c l);obtain⟨s,t,a⟩:=c.shape;obtain⟨m,j⟩:=aP ys.length;rw[<-j]at a;subst a;clear c l j;go_enter func40,ntmps40;go_wp2_with fail;apply e.o.mono;rintro r w1 ⟨v1,rfl,hp⟩;have b:=hp;obtain⟨B,i,-⟩:=b;obtain⟨x,y,rfl⟩:=y8 i;clear i e;generalize B.length=bl at*;go_wp2_with fail;go_ret;exact⟨_,rfl,hp⟩
def Kv {bits:List Bool}(h:oI w w' v bits)(u:bits.length<=800000000):∃P,bQ bits P/\P.length=(bits.length+7)/8/\IX w' v P/\O w w':=by
 obtain⟨B,e,m,r,s⟩:=h;have l:∀y∈B,y<256:=fun y t=>by
  obtain⟨i,hi,rfl⟩:=List.getElem_of_mem t;have:=m.byte i;rw[bV hi]at this;exact this
 refine⟨B,m,r,⟨?_,l,fun j off n c b=> ?_,by omega⟩,s⟩
 ·have o:=e;obtain⟨_,⟨a,hn⟩|⟨g,cap,_,a,_⟩⟩:=e
  ·exact .inl ⟨none,0,a,kP hn⟩
  ·rw[a]at o;refine .inr ⟨g,0,cap,a,fun i hi=> ?_⟩;rw[dS,o.cellAt i (by omega),qM _ _ hi]
 ·refine(e.lt j ?_).2;rw[b];obtain⟨_,⟨a,hn⟩|⟨g,cap,_,a,_⟩⟩:=e
  ·rw[a]at b;cases b
  ·rw[a]at b;simp only[nK,fH,wG,jX]at b;obtain⟨⟨rfl,rfl⟩,rfl,rfl⟩:=b;rfl
open Go.Maps
def aa4 (st:iH)(s:GS)(p:Nat)(h:st.last=s.last):endPos st p=(s.ended p).p/\st.ended.place=(s.ended p).place:=by unfold endPos GS.ended iH.ended;rw[h];exact⟨rfl,rfl⟩
def M5 {s:GS}{st:iH}(h:dJ w d f base g off cap z B s v)(u:st.v=v)(i:mF w' d f base g off cap z B st.ended (endPos st p))(c:fC d f w v w' v)(hp:p<=8*B.length)(j:sG st s.taken s.out)(l:st.room+s.out.length=s.most)(b:st.last=s.last)(m:st.left=s.left)(o:∃x,st.sm= .map x)(r:∃x,st.dm= .map x)(t:PX w d f v st.fx):dJ w' d f base g off cap z B (s.ended p) v:=by have e:=aa4 st s p b;rw[e.1]at i;refine h.after i c u (j.same rfl rfl) l e.2 b m o r (t.step c) (fun a=> ?_) rfl h.room h.left (AV s p _ hp).2.1;exfalso;unfold GS.ended at a;dsimp only at a;split at a<;>omega
def NP (d f base g off cap z p:Nat)(B:aD)(st:iH)(w:aH)(h:mF w d f base g off cap z B st p)(hp:p<=8*B.length)(b:8*B.length<p+8)(m:0<st.left)(r:st.left<=65535):Calls prog 173 #[E d] w fun e w'=>e=lost/\∃q,mF w' d f base g off cap z B st q/\fC d f w st.v w' st.v:=by obtain⟨j,_,_,c3,c4,l,_⟩:=h.dec.cell;go_enter func173,ntmps173;go_wp2_with fail;apply(dL f g off cap z p 8 B w h.feed h.src h.af9.f (by omega) hp b).mono;rintro e w1 ⟨rfl,a⟩;have c:=hide (h.fed a);have i:=hide (fC.fed (d:=d) (v:=st.v) a);go_wp2_with fail;exact⟨rfl,rfl,_,c.o,i.o⟩
def UU (d f base g off cap z:Nat)(B:aD)(s:GS)(v:aK)(w:aH)(l:dJ w d f base g off cap z B s v)(G:s.place=1):Calls prog 173 #[E d] w fun e w'=>I8 (nO B s) d f base g off cap z B s w v e w':=by
 obtain⟨st,rfl,i,m,r,e3,t,u,x,y,A,J⟩:=l.ex;have H:=i.src.much;have a:=m.small r l.most;have c:=l.bits;have C:=l.left;have D:=l.room;unfold nO;by_cases F:s.left=0
 ·rw[aA F];apply(R9 d f base g off cap z s.p B st w i (by omega) (by omega)).mono;rintro e w' ⟨rfl,j,b⟩;exact⟨rfl,st.v,M5 l rfl j b c m r t u x y A,b⟩
 ·rw[aB F];by_cases hp:s.p+8<=8*B.length
  ·rw[aA hp];unfold mM;dsimp only;by_cases o:s.out.length+[aG B s.p 8].length<=s.most
   ·rw[aA o];simp only[oH]at o;apply(NV d f base g off cap z s.p B st w i hp (by omega) (by omega) a (by omega)).mono;rintro e w' ⟨rfl,v',j,b⟩;exact⟨rfl,v',l.after j b rfl ((sG.same (st':={ st with left:=st.left-1 }) m rfl rfl).add v' _) (by simp only[iH.add,aN,oH];omega) e3 t (by simp only[iH.add];rw[u]) x y (A.step b) (fun h=>by rw[G]at h;simp at h) rfl (by simp;omega) (by dsimp only;omega) hp,b⟩
   ·rw[aB o];simp only[oH]at o;have I:st.room=0:=(by omega);apply(NQ d f base g off cap z s.p B st w i hp (by omega) (by omega) a I).mono;rintro e w' ⟨rfl,j,b⟩;refine⟨rfl,by omega,_,_,?_,j,b⟩;have:s.most-s.out.length=0:=(by omega);rw[this,uS,bG];exact m.same rfl rfl
  ·rw[aB hp];apply(NP d f base g off cap z s.p B st w i c (by omega) (by omega) (by omega)).mono;rintro e w' ⟨rfl,q,j,b⟩;exact⟨rfl,s.last,q,fun _=>rfl,⟨st,rfl,j,m,r,e3,t,u,x,y,A.step b,fun h=>by rw[G]at h;simp at h⟩,b⟩
def Oa (D:d9)(B:aD)(p:Nat):∀r j s q,(∀i,1<=i->i<=j->D.tab (bU B p i)=none)->jN D B p r j= .ok s q->∀i,1<=i->i<q-p->D.tab (bU B p i)=none:=by
 intro r;induction r with
 |zero=>intro j s q _ h;simp[jN]at h
 |succ r ih=>
  intro j s q a h;rw[jN]at h;split at h
  ·split at h
   ·simp only[R.ok.injEq]at h;obtain⟨_,rfl⟩:=h;intro i b c;exact a i b (by omega)
   ·rename_i hn;refine ih (j+1) s q (fun i b c=> ?_) h;by_cases hi:i=j+1
    ·rw[hi];exact hn
    ·exact a i b (by omega)
  ·simp at h
def Wd {D:d9}{s:Nat}(h:lC D B p= .ok s q):vS D.longest D.tab B p q s:=by have a:=oV h;exact⟨a.1,by omega,a.2.1,a.2.2.2,Oa D B p _ 0 s q (fun i a b=>by omega) h⟩
def Uc (d f base g off cap z p mb:Nat)(D:d9)(B:aD)(st:iH)(w:aH)(h:mF w d f base g off cap z B st p)(l:st.sm= .map (some mb))(j:st.sl=D.longest)(y:TabAt w mb D.tab)(i:mb≠f)(t:D.longest<=15)(hp:p<=8*B.length)(u:lC D B p= .no 9):Calls prog 174 #[E d] w fun e w'=>e= .returned (V 9)/\∃q,mF w' d f base g off cap z B st q/\fC d f w st.v w' st.v:=by
 obtain⟨r,_,_,c3,c4,A,m,o,_⟩:=h.dec.cell;rw[l]at m;rw[j]at o;have b:=BM f g off cap z p mb D B w.drew h.feed (h.src.step ((aU (fun _=>False) w).drew) (fun x=>x)) h.af9.f (y.of rfl) i t hp;rw[u]at b;go_enter func174,ntmps174;go_wp2_with fail
 go_region_held3 (fun w'=>w'.cell? (U d 0)=some (E f)/\w'.cell? (U d 7)=some (.map (some mb))/\w'.cell? (U d 8)=some (V D.longest)) (go_keep)
  (first|(go_at_call 191;apply b.mono;rintro e w1 ⟨rfl,q,a⟩;have C:=a.step.cell (p:=(U d 0)) r h.dec.ne;have F:=a.step.cell (p:=(U d 7)) m h.dec.ne;have G:=a.step.cell (p:=(U d 8)) o h.dec.ne))
 have s:=(h.step0 ((aU (fun _=>False) w).drew)).fed a;have c:fC d f w st.v w1 st.v:=(fC.step0 ((aU (fun _=>False) w).drew)).trans (fC.fed a);go_wp2_with fail;go_ret;exact⟨rfl,_,s,c⟩
def El (d f base g off cap z p mb:Nat)(D:d9)(B:aD)(st:iH)(w:aH)(h:mF w d f base g off cap z B st p)(j:st.sm= .map (some mb))(i:st.sl=D.longest)(s:TabAt w mb D.tab)(c:mb≠f)(o:D.longest<=15)(hp:p<=8*B.length)(r:lC D B p= .miss):Calls prog 174 #[E d] w fun e w'=>e=lost/\∃q,mF w' d f base g off cap z B st q/\fC d f w st.v w' st.v:=by
 obtain⟨t,_,_,c3,c4,u,l,m,_⟩:=h.dec.cell;rw[j]at l;rw[i]at m;have a:=BM f g off cap z p mb D B w.drew h.feed (h.src.step ((aU (fun _=>False) w).drew) (fun x=>x)) h.af9.f (s.of rfl) c o hp;rw[r]at a;go_enter func174,ntmps174;go_wp2_with fail;go_region_dies;all_goals
  apply a.mono;rintro e w1 ⟨rfl,q,b⟩;exact⟨rfl,rfl,q,(h.step0 ((aU (fun _=>False) w).drew)).fed b,(fC.step0 ((aU (fun _=>False) w).drew)).trans (fC.fed b)⟩
def Fg (d f base g off cap z p mb c q:Nat)(D:d9)(B:aD)(st:iH)(w:aH)(Q:Ending->aH->Prop)(h:mF w d f base g off cap z B st p)(s:st.sm= .map (some mb))(r:st.sl=D.longest)(K:TabAt w mb D.tab)(m:mb≠f)(I:D.longest<=15)(hp:p<=8*B.length)(J:lC D B p= .ok c q)(N:256<c)(F:c<100000)(i:∀w1,mF w1 d f base g off cap z B st q->fC d f w st.v w1 st.v->Calls prog 192 #[E d,V c] w1 fun e w'=>((∃x:Nat,e= .returned (V (x:Nat)))\/e=lost)/\Q e w'):Calls prog 174 #[E d] w fun e w'=>Q e w':=by
 obtain⟨A,_,_,c3,c4,M,t,u,_⟩:=h.dec.cell;rw[s]at t;rw[r]at u;have b:=BM f g off cap z p mb D B w.drew h.feed (h.src.step ((aU (fun _=>False) w).drew) (fun x=>x)) h.af9.f (K.of rfl) m I hp;rw[J]at b;go_enter func174,ntmps174;go_wp2_with fail;refine wp_region_noPanic ?_
 go_region_held3 (fun w'=>w'.cell? (U d 0)=some (E f)/\w'.cell? (U d 7)=some (.map (some mb))/\w'.cell? (U d 8)=some (V D.longest)) (go_keep)
  (first|(go_at_call 191;apply b.mono;rintro e w1 ⟨rfl,a⟩;have R:=a.step.cell (p:=(U d 0)) A h.dec.ne;have S:=a.step.cell (p:=(U d 7)) t h.dec.ne;have T:=a.step.cell (p:=(U d 8)) u h.dec.ne))
 refine NoPanic.normal ?_;have C:=(h.step0 ((aU (fun _=>False) w).drew)).fed a;have l:fC d f w st.v w1 st.v:=(fC.step0 ((aU (fun _=>False) w).drew)).trans (fC.fed a);have j:=hide (i w1 C l);have G:((c:Int)==256)=false:=aX.2 (by omega);have H:¬(c:Int)<256:=by omega
 go_wp2_with fail;apply j.o.mono;rintro e w3 ⟨⟨x,rfl⟩|rfl,y⟩
 ·go_wp2_with fail;exact y
 ·go_wp2_with fail;exact⟨rfl,y⟩
inductive Oc (B:aD):Nat->PS->Nat->PS->Prop
 |done (s:PS) (h:s.place=3):Oc B 0 s 0 s
 |much (s s':PS) (h:Ag B s s') (h3:s.place≠3):Oc B 1 s 11 s'
 |step (n:Nat) (s s1 s':PS) (e:Nat) (h:AU B s s1) (h3:s.place≠3) (k:Oc B n s1 e s'):Oc B (n+1) s e s'
def Yl {D:d9}{c:Nat}(h:vS D.longest D.tab B p q c):∀r j,j<q-p->D.longest=r+j->jN D B p r j= .ok c q:=by
 intro r;induction r with
 |zero=>intro j b e;have:=h.le;omega
 |succ r ih=>
  intro j b e;have i:=h.lt;have l:=h.there;rw[jN,aA (by omega)];by_cases a:j+1=q-p
  ·rw[a,h.is];dsimp only;rw[show p+(q-p)=q by omega]
  ·rw[h.no (j+1) (by omega) (by omega)];exact ih (j+1) (by omega) (by omega)
def IW {D:d9}{c:Nat}(h:vS D.longest D.tab B p q c):lC D B p= .ok c q:=Yl h D.longest 0 (by have:=h.lt;omega) (by omega)
def Xl {D:d9}{pos:Nat->Nat}(m:L.length=n)(b:∀i:Nat,L[i]?.getD 0<16)(l:∀i,i<n->vS D.longest D.tab B (pos i) (pos (i+1)) (L[i]?.getD 0)):∀k i,i+k=n->iC D B n k (pos i) (L.take i)= .ok L (pos n):=by
 intro k;induction k with
 |zero=>
  intro i hi;have:i=n:=by omega
  subst this;rw[iC,<-m,sI]
 |succ k ih=>
  intro i hi;have c:(L.take i).length=i:=by rw[dF];omega
  rw[iC,aB (by omega),IW (l i (by omega))];dsimp only;have j:=b i;rw[aB (fun o=>by omega)];unfold fO;rw[aA j];dsimp only;rw[aB (by omega)];have e:L.take i++List.replicate 1 (L[i]?.getD 0)=L.take (i+1):=by
   have a:i<L.length:=(by omega);rw[LB a,bV a];rfl
  rw[e];exact ih (i+1) (by omega)
def Km {pos:Nat->Nat}(h:ad9 B p pos L):bW B p= .ok (L.take 257,L.drop 257) (pos 258):=by
 have i:=h.there;unfold bW;rw[aA (by omega)];dsimp only;rw[h.n1,h.n2,h.n3,aB (by omega),aA (by omega),aA h.aE0];have b:=Xl (D:=aI (bD B (p+14) 19)) (B:=B) (pos:=pos) (L:=L) (n:=258) h.len h.lt h.code 258 0 (by omega);rw[h.aI0,uS]at b;have e:NM (aI (bD B (p+14) (15+4))) B (0+257+(0+1)) (p+14+3*(15+4))= .ok L (pos 258):=b;rw[e];dsimp only;unfold pI;have a:=h.end_;rw[jQ (by omega)]at a;have c:p9 (L.drop (0+257))=true:=by
  unfold p9;rw[show L.drop (0+257)=L.drop 257 from rfl,h.none_];rfl
 rw[aA ⟨a,h.may,c⟩]
structure Link (s:PS)(t:GS):Prop where
 out:t.out=s.out
 most:t.most=s.most
 place:t.place=s.place
 last:t.last=s.last
 left:t.left=s.left
 p:t.p=s.p
 tab:s.place=2->s.tab=(aI t.ls).tab/\s.longest=(aI t.ls).longest
def Link.ended {s:PS}{t:GS}(h:Link s t)(q:Nat):Link (s.ended q) (t.ended q):=by
 refine⟨h.out,h.most,?_,h.last,h.left,?_,fun a=> ?_⟩
 ·unfold GS.ended PS.ended;dsimp only;rw[h.last]
 ·unfold GS.ended PS.ended;dsimp only;rw[h.last]
 ·exfalso;unfold PS.ended at a;dsimp only at a;split at a<;>omega
def Sj {s x:PS}{t:GS}(h:AU B s x)(a:Link s t):∃y,bM B t= .go y/\Link x y:=by
 have hp:=a.p;have F:=a.place;cases h with
 |stored q n last b hh G r hn C D=>
  refine⟨{ t with last:=last,left:=n,place:=1,p:=q+32 },?_,a.out,a.most,rfl,rfl,rfl,rfl,fun u=>by simp at u⟩;unfold bM;rw[aB (by omega),aB (by omega)];unfold kL;rw[hp,aA hh.there,aA hh.ak9,<-G,aA r,hn,aA C];have:(bK B s.p==1)=last:=by rw[hh.ay6];cases last<;>rfl
  rw[this]
 |told last pos L b hh i=>
  refine⟨{ t with last:=last,place:=2,ls:=L.take 257,ld:=L.drop 257,p:=pos 258 },?_,a.out,a.most,rfl,rfl,a.left,rfl,fun _=>⟨rfl,rfl⟩⟩;unfold bM;rw[aB (by omega),aB (by omega)];unfold kL;rw[hp,aA hh.there,aB (by rw[hh.ak9];omega),aB (by rw[hh.ak9];omega),aA hh.ak9,Km i];have:(bK B s.p==1)=last:=by rw[hh.ay6];cases last<;>rfl
  rw[this]
 |fixed last b hh=>
  have e:gK=aW:=rfl;refine⟨{ t with last:=last,place:=2,ls:=gK,ld:=fM,p:=s.p+3 },?_,a.out,a.most,rfl,rfl,a.left,rfl,fun _=>⟨by dsimp only;rw[e],by dsimp only;rw[e]⟩⟩;unfold bM;rw[aB (by omega),aB (by omega)];unfold kL;rw[hp,aA hh.there,aB (by rw[hh.ak9];omega),aA hh.ak9];have:(bK B s.p==1)=last:=by rw[hh.ay6];cases last<;>rfl
  rw[this]
 |byte b m A o H=>
  refine⟨{ t with left:=t.left-1,out:=t.out++[aG B s.p 8],p:=s.p+8 },?_,by rw[a.out],a.most,a.place,a.last,by rw[a.left],rfl,fun u=>by simp only at u;omega⟩;unfold bM;rw[aA (by omega)];unfold nO;rw[aB (by rw[a.left];omega),hp,aA o];unfold mM;dsimp only;rw[aA (by rw[a.out,a.most,oH];omega)]
 |bytes b m o=>
  refine⟨t.ended t.p,?_,by rw[hp];exact a.ended s.p⟩;unfold bM;rw[aA (by omega)];unfold nO;rw[aA (by rw[a.left];exact m)]
 |sym q c b l j H=>
  have i:=a.tab b;rw[i.1,i.2]at l;refine⟨{ t with out:=t.out++[c],p:=q },?_,by rw[a.out],a.most,a.place,a.last,a.left,rfl,a.tab⟩;unfold bM;rw[aB (by omega),aA (by omega)];unfold uF;rw[hp,IW l];dsimp only;rw[aA j];unfold mM;rw[aA (by rw[a.out,a.most,oH];omega)]
 |syms q b l=>
  have i:=a.tab b;rw[i.1,i.2]at l;refine⟨t.ended q,?_,a.ended q⟩;unfold bM;rw[aB (by omega),aA (by omega)];unfold uF;rw[hp,IW l];dsimp only;rw[aB (by omega),aA rfl]
def Vh {s o:PS}{t:GS}(h:Ag B s o)(a:Link s t):bM B t= .no 11 o.out:=by
 have hp:=a.p;have x:=a.place;cases h with
 |byte j r u e i=>
  unfold bM;rw[aA (by omega)];unfold nO;rw[aB (by rw[a.left];omega),hp,aA e];unfold mM;dsimp only;rw[aB (by rw[a.out,a.most,oH];omega),a.out,a.most,i,uL,uS,bG]
 |sym q c j l b i=>
  have m:=a.tab j;rw[m.1,m.2]at l;unfold bM;rw[aB (by omega),aA (by omega)];unfold uF;rw[hp,IW l];dsimp only;rw[aA b];unfold mM;rw[aB (by rw[a.out,a.most,oH];omega),a.out,a.most,i,uL,uS,bG]
def Oc.az1 {e:Nat}{s s':PS}(h:Oc B n s e s'):∀t,Link s t->∃q,eZ B n t e s'.out q/\(e=0->q=s'.p):=by
 induction h with
 |done s h=>
  intro t a;refine⟨t.p,?_,fun _=>a.p⟩;rw[<-a.out];exact .done t (by rw[a.place];exact h)
 |much s s' h b=>
  intro t a;exact⟨0, .no t 11 s'.out (by rw[a.place];exact b) (Vh h a),fun o=>by omega⟩
 |step n s r s' e h b k ih=>
  intro t a;obtain⟨i,m,c⟩:=Sj h a;obtain⟨q,l,j⟩:=ih i c;exact⟨q, .go n t i e s'.out q (by rw[a.place];exact b) m l,j⟩
end Go.Proofs.YtbpahojchgpdnaaGreatDoor
