import Derived.Deep.DeepCutAuto
import Derived.Test.YtbpahojchgpdnaaGreatDoorSummed
set_option maxRecDepth 20000
set_option maxHeartbeats 4000000
set_option linter.all false
namespace Go.Proofs.YtbpahojchgpdnaaGreatDoor
open Go.RowKit Go.dM Go.Proofs.Tryz
variable {w w':aH} {base k:Nat} {B ys:aD} {u v:aK}
def rX (n:Nat):Nat:=(8-n%8)%8
structure an3 (w:aH)(k base:Nat)(v:aK)(bs:List Bool)(B:aD):Prop where
 blk:w.heap[k]? =some (.cells #[v,V (rX bs.length:Nat)] 103 (0,0))
 own:w.ownsRow base 5 1 v B.length (jR B)
 bits:bQ bs B
 len:B.length=(bs.length+7)/8
 apart:k<base
structure Ef (w:aH)(k base:Nat)(v:aK)(bs:List Bool)(B:aD):Prop where
 blk:w.heap[k]? =some (.cells #[v,V (8-bs.length%8:Nat)] 103 (0,0))
 own:w.ownsRow base 5 1 v B.length (jR B)
 bits:bQ bs B
 len:B.length=bs.length/8+1
 apart:k<base
def Ef.put {g cap x:Nat}{a:List Bool}(h:Ef w k base (.slice (some (U g 0)) B.length cap) a B)(A:x<2)(c:Nat)(o:c=B[a.length/8]?.getD 0|||x*2^(a.length%8)):∃m,an3 (((w.setCell ⟨g,a.length/8,none⟩ (.int .u8 (c:Nat))).setCell (U k 1) (V ((8-a.length%8:Nat)-1:Int))).drew) k base (.slice (some (U g 0)) B.length cap) (a++[decide (x=1)]) m/\m.length=B.length:=by
 have z:=h.len;have b:a.length/8<B.length:=by omega
 have s:base<=g:=(h.own.lt g rfl).1;have d:=h.apart;have p:g≠k:=by omega
 refine⟨B.set (a.length/8) c,⟨?_,?_,?_,?_,d⟩,by simp⟩
 ·have r:(w.setCell ⟨g,a.length/8,none⟩ (.int .u8 (c:Nat))).heap[k]? =_:=(cZ w ⟨g,a.length/8,none⟩ _ k (fun y=>p y.symm)).trans h.blk;have n:=aV r 1 (V ((8-a.length%8:Nat)-1:Int));have e:((8-a.length%8:Nat)-1:Int)=((rX (a++[decide (x=1)]).length:Nat):Int):=by
   unfold rX;rw[aN,oH];omega
  rw[e]at n|-
  show(World.setCell _ _ _).heap[k]? =_;simpa using n
 ·have t:=(h.own.stored (a.length/8) (.int .u8 (c:Nat))).1;have f:=bX (w':=((w.setCell ⟨g,a.length/8,none⟩ (.int .u8 (c:Nat))).setCell (U k 1) (V ((8-a.length%8:Nat)-1:Int))).drew) t (fun j q=>cZ _ _ _ _ (fun y=>by
   simp only[Value.ownBlock,fH]at q;rw[<-q]at y;exact p y))
  rw[List.length_set];have e:(jR B).set (a.length/8) (.int .u8 (c:Nat))=jR (B.set (a.length/8) c):=by simp[jR,List.map_set]
  rw[<-e];exact f
 ·have l:x=0\/x=1:=by omega
  rcases l with rfl|rfl
  ·have e:B.set (a.length/8) c=B:=by
    rw[o,Nat.zero_mul,Nat.or_zero];refine wL fun i=> ?_;by_cases hi:i=a.length/8
    ·subst hi;rw[List.getElem?_set_self b,bV b];rfl
    ·rw[List.getElem?_set_ne (fun y=>hi y.symm)]
   rw[e];exact h.bits.as8
  ·rw[o,wJ];exact h.bits.at6 b
 ·rw[List.length_set,aN,oH];omega
def aC0 (k base x:Nat)(v:aK)(b:List Bool)(B:aD)(w:aH)(h:an3 w k base v b B)(hx:x<2)(hl:b.length<70368744177664)(T:base<=w.heap.size):Calls prog 126 #[E k,V x] w fun e w'=>e= .returned (.tuple #[])/\∃v' N,an3 w' k base v' (b++[decide (x=1)]) N/\dH k w v w' v':=by
 obtain⟨h0,h1,X,Y⟩:=gB h.blk;have ar:=aO h.blk;have i:=hide h.len;have z:=hide h;go_enter func126,ntmps126;go_upto_if 8 with fail;go_cut [] (fun wc=>∃v1 s,Ef wc k base v1 b s/\dH k w v wc v1);case first=>
  by_cases hr:b.length%8=0
  ·have l:rX b.length=0:=(by unfold rX;omega);rw[l]at h1;obtain⟨i0,hi,ae,af,ag⟩:=eD info5;have n:=h.own;obtain⟨va,vc,L⟩:∃a c,v= .slice a B.length c:=by
    obtain⟨_,⟨J,hn⟩|⟨g,cap,_,J,_⟩⟩:=n
    ·exact⟨none,0,by rw[J,hn]⟩
    ·exact⟨_,_,J⟩
   have M:=hide L;have HW:=hide n;rw[L]at h0;go_wp2_with (at_builtin;refine fQ _ rfl _ _ 31 rfl base 5 i0 (.int .u8 0) 1 1 underlying31 hi ae af ag rfl (by decide) _ B.length (jR B) rfl (by rw[<-M.o];exact HW.o.alloc _) (U w.heap.size 0) 1 1 [.int .u8 0] rfl rfl ?c1 ?c2 (by decide) ?c3 ?c4 ?c5 ?_);case c1=>
    intro j u f;match j,f with
    |0,f=>simp at f;subst f;exact jO (aR w (.cells #[.int .u8 0] 5))
   case c2=>intro u hu;simp at hu;subst hu;rfl
   case c3=>have:=i.o;unfold maxLen;omega
   case c4=>have:=i.o;omega
   case c5=>simp;omega
   intro g cap w1 d F hg;have G:v.ownBlock≠some k:=fun hk=>by have:=(HW.o.lt k hk).1;have:=z.o.apart;omega
   have A:O w (w.alloc (.cells #[.int .u8 0] 5)):=(aU _ _).alloc _;have r:Step (fun j=>v.ownBlock=some j) w w1:=(A.mono (fun _ y=>y.elim)).grown F (fun j f=> .inl (by rw[M.o];exact f));have m:=r.at_ z.o.blk G;obtain⟨k0,k1,ah,ai⟩:=gB m;have ak:=aO m;have aa:base<=g:=(d.lt g rfl).1;have P:=hide (show Ef ((w1.setCell (U k 0) (.slice (some (U g 0)) (B.length+1) cap)).setCell (U k 1) (V 8)) k base (.slice (some (U g 0)) (B.length+1) cap) b (B++[0])/\dH k w v ((w1.setCell (U k 0) (.slice (some (U g 0)) (B.length+1) cap)).setCell (U k 1) (V 8)) (.slice (some (U g 0)) (B.length+1) cap) from by
    have C:=z.o.apart;have el:(B++[0]).length=B.length+1:=(by simp);have eu:jR B++[.int .u8 0]=jR (B++[0]):=(by simp[jR]);have H:Step (·=k) w1 ((w1.setCell (U k 0) (.slice (some (U g 0)) (B.length+1) cap)).setCell (U k 1) (V 8)):=((aU (·=k) w1).setCell (p:=(U k 0)) rfl _).setCell (p:=(U k 1)) rfl _;refine⟨⟨?_,?_,z.o.bits.zero,by have:=i.o;rw[el];omega,C⟩,⟨(r.mono (fun j y=> .inr y)).trans (H.mono (fun j y=> .inl y)),fun j f=> ?_⟩⟩
    ·have h8:=aV m 0 (.slice (some (U g 0)) (B.length+1) cap);have h9:=aV h8 1 (V 8);rw[hr];simpa using h9
    ·rw[el,<-eu];exact bX d (fun j f=>H.block j (d.lt j f).2 (fun y=>by
      simp only[Value.ownBlock,fH]at f;omega))
    ·simp only[Value.ownBlock,fH]at f;subst f;rcases hg with y|y
     ·exact .inl (by rw[M.o];exact y)
     ·exact .inr (by omega))
   rw[M.o]at k0;rw[l]at k1;clear d F hg r m A G;go_wp2_with fail;go_meet;case rel=>exact⟨_,_,P.o⟩
  ·have l:rX b.length=8-b.length%8:=(by unfold rX;omega);have av:((rX b.length:Int)==0)=false:=aX.2 (by omega);have P:=hide (show Ef w k base v b B from⟨by rw[<-l];exact h.blk,h.own,h.bits,by have:=i.o;omega,h.apart⟩);clear h l;go_wp2_with fail;go_meet;case rel=>exact⟨v,B,P.o,dH.refl _ _ _⟩
 case rest=>
  obtain⟨v1,s,q,hw⟩:=hcut;clear h0 h1 X Y z h;have ab:=q.len;obtain⟨_,⟨_,hz⟩|⟨g,cap,al,J,aa,hh,_⟩⟩:=q.own
  ·omega
  subst J;obtain⟨k0,k1,ah,ai⟩:=gB q.blk;have Z:=aJ hh (b.length/8);have D:wc.cell? ⟨g,b.length/8,none⟩=some (.int .u8 (s[b.length/8]?.getD 0:Nat)):=by
   rw[q.own.cellAt (b.length/8) (by omega),qM _ _ (by omega)]
  have S:=q.bits.byte (b.length/8);obtain⟨c,W⟩:=aP (s[b.length/8]?.getD 0);obtain⟨j,f⟩:=aP (b.length/8);obtain⟨t,ht⟩:=aP (b.length%8);rw[<-W]at D S;rw[<-f]at D Z;rw[<-ht]at k1;have ac:t<8:=by omega
  have R:=hide hw;have C:=q.apart;have an:¬g=k:=by omega
  have aj:¬k=g:=by omega
  have HC:=hide W;have HJ:=hide f;have Q:=hide ht;have au:(s.length:Int)-1=(j:Int):=by omega
  have ap:(j:Int)<(s.length:Int):=by omega
  have ao:(0:Int)<=(j:Int):=by omega
  have aq:IntKind.i64.wrap (j:Int)=(j:Int):=by rw[dK];omega
  have ax:IntKind.i64.wrap (8-((8-t:Nat):Int))=(t:Int):=by rw[dK];omega
  have aw:(8:Int)-((8-t:Nat):Int)=(t:Int):=by omega
  clear hw W f ht hh ab;go_wp2_with fail;go_region;go_wp2_with fail;go_end0;have ad:x=0\/x=1:=by omega
  have K:bits BinOp.or IntKind.u8 (c:Int) ((x:Int)*2^t%256)=((c|||x*2^t:Nat):Int):=by
   rcases ad with rfl|rfl
   ·rw[show(((0:Nat):Int)*2^t%256)=((0:Nat):Int) by simp,UM c 0 S (by decide),Nat.zero_mul]
   ·rw[show(((1:Nat):Int)*2^t%256)=2^t%256 by simp,or_val c t S ac,wJ]
  obtain⟨N,I,am⟩:=q.put hx (c|||x*2^t) (by rw[HC.o,Q.o]);rw[Q.o]at I;rw[K,HJ.o,Q.o];refine⟨rfl,_,N,I,R.o.trans ⟨?_,fun j f=> .inl f⟩⟩;exact(((aU _ _).setCell (.inr rfl) _).setCell (.inl rfl) _).drew
def Sk (w:aH)(k base:Nat)(v:aK)(bs:List Bool):Prop:=∃B,an3 w k base v bs B
def Sk.lt {a:List Bool}(h:Sk w k base v a):k<w.heap.size:=by obtain⟨B,h⟩:=h;exact aO h.blk
def Nh (k base x:Nat)(v:aK)(b:List Bool)(w:aH)(h:Sk w k base v b)(j:x<2)(i:b.length<70368744177664)(a:base<=w.heap.size):Calls prog 126 #[E k,V x] w fun e w'=>e= .returned (.tuple #[])/\∃c,Sk w' k base c (b++[decide (x=1)])/\dH k w v w' c:=by obtain⟨B,h⟩:=h;apply(aC0 k base x v b B w h j i a).mono;rintro e w' ⟨rfl,c,d,f,g⟩;exact⟨rfl,c,⟨d,f⟩,g⟩
def Av (a:Nat)(b:a<4611686018427387904):bits .and .i64 (a:Int) 1=((a%2:Nat):Int):=by have c:a&&&1<2^1:=IZ _ (by omega);show IntKind.i64.wrap ((BitVec.ofInt 64 (a:Int)&&&BitVec.ofInt 64 ((1:Nat):Int)).toNat:Int)=_;rw[GI,j5 64 a (by omega),j5 64 1 (by omega),dK,OZ];omega
def IG (k base x n:Nat)(v:aK)(c:List Bool)(w:aH)(h:Sk w k base v c)(I:x<4611686018427387904)(hn:n<=60)(K:c.length<70368744170000)(j:base<=w.heap.size):Calls prog 93 #[E k,V x,V n] w fun e w'=>e= .returned (.tuple #[])/\∃C,Sk w' k base C (c++numBits x n)/\dH k w v w' C:=by
 have D:=hide h;go_enter func93,ntmps93;go_wp2_with fail;go_loopg [8] n (fun g u8 wr=>∃(i:Nat) (v1:aK),u8=V i/\g+i=n/\Sk wr k base v1 (c++numBits x i)/\dH k w v wr v1);case atStart=>exact⟨0,v,rfl,by omega,by rw[show numBits x 0=[] from rfl,bG];exact D.o,dH.refl _ _ _⟩
 case round=>
  obtain⟨i,v1,rfl,J,hs,d⟩:=hrel;by_cases hi:i<n
  ·have l:(i:Int)<(n:Int):=(by omega);have G:(0:Int)<=(i:Int):=(by omega);have A:x/2^i<4611686018427387904:=JC (DU _ _) I;have a:=Av (x/2^i) A;have b:bits .and .i64 ((x:Int)/2^i) 1=((x/2^i%2:Nat):Int):=(by rw[<-a];simp);have H:=d.step.size;have z:=Nh k base (x/2^i%2) v1 (c++numBits x i) wr hs (by omega) (by rw[aN,aM];omega) (by omega);have t:=hide z;obtain⟨y,q⟩:=aP (x/2^i%2);rw[<-q]at b t;have F:=hide q;clear z hs a A q;go_wp2_with fail;apply t.o.mono;rintro r w2 ⟨rfl,s,m,p⟩;have f:=hide (show Sk w2 k base s (c++numBits x (i+1))/\dH k w v w2 s from⟨by
    rw[uX,<-dB,<-F.o];exact m,d.trans p⟩)
   go_wp2_with fail;go_roundg (gk-1);case measure=>omega
   case rel=>exact⟨i+1,s,by simp,by omega,f.o⟩
  ·obtain rfl:i=n:=by omega
   have l:¬(i:Int)<(i:Int):=(by omega);have f:=hide (aQ hs d);clear hs d;go_wp2_with fail;go_end0;exact⟨rfl,v1,f.o⟩
def _root_.Go.dM.bQ.fill {a:List Bool}(h:bQ a B)(n:Nat):bQ (a++List.replicate n false) B:=by
 induction n with
 |zero=>simpa using h
 |succ n ih=>rw[OX,<-dB];exact ih.as8
def aa5 (k base:Nat)(v:aK)(a:List Bool)(w:aH)(h:Sk w k base v a):Calls prog 95 #[E k] w fun e w'=>e= .returned (.tuple #[])/\Sk w' k base v (a++dW a.length)/\Step (·=k) w w':=by
 obtain⟨B,h⟩:=h;obtain⟨m,n,g,i⟩:=gB h.blk;have l:=aO h.blk;have c:=hide (show Sk (w.setCell (U k 1) (V 0)) k base v (a++dW a.length)/\Step (·=k) w (w.setCell (U k 1) (V 0)) from by
  have hs:Step (·=k) w (w.setCell (U k 1) (V 0)):=(aU (·=k) w).setCell (p:=(U k 1)) rfl _;have f:=h.apart;refine⟨⟨B,?_,?_,h.bits.fill _,?_,h.apart⟩,hs⟩
  ·have d:=aV h.blk 1 (V 0);have e:rX (a++dW a.length).length=0:=by
    rw[aN,dW,dQ];unfold rX;omega
   rw[e];simpa using d
  ·exact bX h.own (fun j b=>hs.block j (h.own.lt j b).2 (fun y=>by have:=(h.own.lt j b).1;omega))
  ·have:=h.len;rw[aN,dW,dQ];omega)
 clear h;go_enter func95,ntmps95;go_wp2_with fail;go_end0;exact⟨rfl,c.o⟩
def Cx (y p:Nat)(hp:p<8):(numBits y 8)[p]?.getD false=decide (y/2^p%2=1):=by unfold numBits;rw[kE,zI hp];rfl
def ZB (ys:aD)(p:Nat):((dA ys)[p]?.getD false).toNat=bK ys p:=by
 induction ys generalizing p with
 |nil=>simp[dA,bK]
 |cons y ys ih=>
  rw[show dA (y::ys)=numBits y 8++dA ys from rfl];by_cases hp:p<8
  ·rw[jA (by rw[aM];exact hp),Cx y p hp];unfold bK;rw[show p/8=0 by omega,show p%8=p by omega];show _=y/2^p%2;rcases JO (y/2^p)with h|h<;>rw[h]<;>rfl
  ·rw[kZ (by rw[aM];omega),aM,ih];unfold bK;rw[show p/8=(p-8)/8+1 by omega,show(p-8)%8=p%8 by omega,List.getElem?_cons_succ]
def QS {a:List Bool}(h:bQ a B)(d:a.length=8*B.length)(ys:aD)(e:∀y∈ys,y<256):bQ (a++dA ys) (B++ys):=by
 refine⟨fun i=> ?_,fun p=> ?_⟩
 ·by_cases hi:i<B.length
  ·rw[jA hi];exact h.byte i
  ·rw[kZ (by omega)];by_cases b:i-B.length<ys.length
   ·rw[bV b];exact e _ (vE b)
   ·rw[fZ (by omega)];decide
 ·by_cases hp:p<a.length
  ·have c:=h.bit p;rw[jA hp,<-c];unfold bK;rw[jA (by omega)]
  ·rw[kZ (by omega),ZB];unfold bK;rw[kZ (by omega),d,show p/8-B.length=(p-8*B.length)/8 by omega,show(p-8*B.length)%8=p%8 by omega]
def NY {P:Program}(base:Nat)(t l e:TypeId)(i:TypeInfo)(size:Nat)(j:P.underlying t=some (.slice e))(hi:P.info? e=some i)(v:aK)(n:Nat)(xs:List aK)(a:w.ownsRow base e size v n xs)(b:Option Addr)(c:Nat):(Builtin.append_ #[t,t] l #[v, .slice b 0 c]).run P w= .ok v w:=by rcases a.2 with⟨rfl,rfl⟩|⟨g,cap,d,rfl,_,_,f,_⟩<;>cases b<;>simp[Builtin.append_,x9 j,sizeOf,typeInfo,Builtin.lenOf,Builtin.firstCells,storeCells,loadCells,loadCellsFrom, *]
def FU {P:Program}{f:Array Oper}{rest:List Oper}{o:Oper}{a:Act}{Q:Exit->Act->aH->Prop}(g:o.guard=none)(s x:Operand)(t:TypeId)(m:o.op= .call { callee:= .builtin .append,args:=#[s,x],argTypes:=#[t,t] })(base:Nat)(e:TypeId)(i:TypeInfo)(size:Nat)(p:P.underlying t=some (.slice e))(hi:P.info? e=some i)(v:aK)(n:Nat)(xs:List aK)(hs:a.eval s=v)(b:w.ownsRow base e size v n xs)(j:Option Addr)(c:Nat)(q:a.eval x= .slice j 0 c)(h:wpList P f Q rest (a.put o.dst v) w):wpList P f Q (o::rest) a w:=by refine wpList_plain g fun K l=> ?_;have d:=NY (P:=P) (w:=w) base t o.type e i size p hi v n xs b j c;unfold Oper.wp;simp[execOp,m,resolve,invoke,builtin,hs,q,d,Result.andThen];exact l _ _ h
def Xx (v:aK)(h:Step (·=k) w w'):dH k w v w' v:=⟨h.mono (fun _ y=> .inl y),fun _ a=> .inl a⟩
def Eu (n:Nat):(n+(dW n).length)%8=0:=by unfold dW;rw[dQ];omega
def Qt (k base:Nat)(v u:aK)(f:List Bool)(ys:aD)(w:aH)(h:Sk w k base v f)(hu:tZ w u ys)(hy:∀y∈ys,y<256)(hl:f.length+8*ys.length<70368744170000)(T:base<=w.heap.size)(D:∀j off n c,u= .slice (some (U j off)) n c->j≠k):Calls prog 58 #[E k,u] w fun e w'=>e= .returned (.tuple #[])/\∃L,Sk w' k base L (f++dW f.length++dA ys)/\dH k w v w' L:=by
 have R:=hide (aa5 k base v f w h);obtain⟨i0,hi,ac,ad,ae⟩:=eD info5;go_enter func58,ntmps58;have aa:(∃a c,u= .slice a 0 c/\ys=[])\/(ys≠[]/\∃j off cap,u= .slice (some (U j off)) ys.length cap/\nI w j off ys):=by
  rcases hu with hu|⟨j,off,cap,t,z⟩
  ·exact .inl hu
  ·by_cases s:ys=[]
   ·subst s;exact .inl ⟨_,_,t,rfl⟩
   ·exact .inr ⟨s,j,off,cap,t,z⟩
 rcases aa with⟨ua,Q,rfl,rfl⟩|⟨s,j,off,Q,rfl,z⟩
 ·go_wp2_with fail;apply R.o.mono;rintro r w1 ⟨rfl,⟨B,d⟩,q⟩;obtain⟨k0,k1,af,ag⟩:=gB d.blk;obtain⟨M,N,b⟩:∃a c,v= .slice a B.length c:=by
   obtain⟨_,⟨t,hn⟩|⟨g,cap,_,t,_⟩⟩:=d.own
   ·exact⟨none,0,by rw[t,hn]⟩
   ·exact⟨_,_,t⟩
  have P:=hide d.own;rw[b]at k0;have S:=hide (show Sk (w1.setCell (U k 0) (.slice M B.length N)) k base v (f++dW f.length++dA [])/\dH k w v (w1.setCell (U k 0) (.slice M B.length N)) v from by
   have hs:Step (·=k) w1 (w1.setCell (U k 0) (.slice M B.length N)):=(aU (·=k) w1).setCell (p:=(U k 0)) rfl _;have A:=d.apart;refine⟨⟨B,?_,?_,?_,?_,A⟩,Xx v (q.trans hs)⟩
   ·have G:=aV d.blk 0 (.slice M B.length N);rw[show dA []=[] from rfl,bG,b];rw[b]at G;simpa using G
   ·exact bX d.own (fun i hi=>hs.block i (d.own.lt i hi).2 (fun y=>by have:=(d.own.lt i hi).1;omega))
   ·rw[show dA []=[] from rfl,bG];exact d.bits
   ·rw[show dA []=[] from rfl,bG];exact d.len)
  go_wp2_with (at_builtin;refine FU rfl _ _ 31 rfl base 5 i0 1 underlying31 hi _ B.length (jR B) rfl (by rw[<-b];exact P.o) ua Q rfl ?_);go_end0;exact⟨rfl,v,S.o⟩
 ·have Y:=D j off ys.length Q rfl;have ab:0<ys.length:=List.length_pos_iff.2 s;go_wp2_with fail;apply R.o.mono;rintro r w1 ⟨rfl,⟨B,d⟩,q⟩;obtain⟨k0,k1,af,ag⟩:=gB d.blk;have ah:=aO d.blk;have aj:=q.size;obtain⟨M,N,b⟩:∃a c,v= .slice a B.length c:=by
   obtain⟨_,⟨t,hn⟩|⟨g,cap,_,t,_⟩⟩:=d.own
   ·exact⟨none,0,by rw[t,hn]⟩
   ·exact⟨_,_,t⟩
  have I:nI w1 j off ys:=fun i hi=>q.cell (p:=⟨j,off+i,none⟩) (z i hi) Y;have x:(f++dW f.length).length=8*B.length:=by
   have h8:=Eu f.length;have G:=d.len;rw[aN]at G|-
   omega
  have W:(dW f.length).length<8:=by unfold dW;rw[dQ];omega
  have H:8*B.length<f.length+8:=by rw[<-x,aN];omega
  have P:=hide d.own;rw[b]at k0;obtain⟨m,Z⟩:=aP ys.length;have F:=hide Z;rw[<-Z];clear R z Z s W;go_wp2_with (at_builtin;refine fQ _ rfl _ _ 31 rfl base 5 i0 (.int .u8 0) 1 1 underlying31 hi ac ad ae rfl (by decide) _ B.length (jR B) rfl (by rw[<-b];exact P.o) (U j off) m Q (jR ys) rfl ?c0 ?c1 ?c2 ?c6 ?c3 ?c4 ?c5 ?_);case c0=>rw[nG,F.o,wT]
  case c1=>exact I.news
  case c2=>exact yK _
  case c6=>rw[F.o];exact ab
  case c3=>have:=H;have:=F.o;unfold maxLen;omega
  case c4=>have:=H;have:=F.o;omega
  case c5=>omega
  intro g cap w2 l X hg;have D:v.ownBlock≠some k:=fun hk=>by have:=(P.o.lt k hk).1;have:=d.apart;omega
  have J:Step (fun i=>v.ownBlock=some i) w1 w2:=(aU _ w1).grown X (fun i hi=> .inl (by rw[b];exact hi));have C:=J.at_ d.blk D;obtain⟨m0,m1,al,am⟩:=gB C;have ai:=aO C;rw[b]at m0;have S:=hide (show∃L,Sk (w2.setCell (U k 0) (.slice (some (U g 0)) (B.length+m) cap)) k base L (f++dW f.length++dA ys)/\dH k w v (w2.setCell (U k 0) (.slice (some (U g 0)) (B.length+m) cap)) L from by
   have A:=d.apart;have ak:base<=g:=(l.lt g rfl).1;have K:Step (·=k) w2 (w2.setCell (U k 0) (.slice (some (U g 0)) (B.length+m) cap)):=(aU (·=k) w2).setCell (p:=(U k 0)) rfl _;have el:(B++ys).length=B.length+m:=(by rw[aN,F.o]);refine⟨.slice (some (U g 0)) (B.length+m) cap,⟨B++ys,?_,?_,QS d.bits x ys hy,?_,A⟩,(Xx v q).trans ⟨(J.mono (fun i y=> .inr y)).trans (K.mono (fun i y=> .inl y)),fun i hi=> ?_⟩⟩
   ·have G:=aV C 0 (.slice (some (U g 0)) (B.length+m) cap);have e1:rX (f++dW f.length++dA ys).length=rX (f++dW f.length).length:=by
     rw[aN,iA,x];unfold rX;omega
    rw[e1];simpa using G
   ·rw[el,show jR (B++ys)=jR B++jR ys by simp[jR]];exact bX l (fun i hi=>K.block i (l.lt i hi).2 (fun y=>by
     simp only[Value.ownBlock,fH]at hi;omega))
   ·rw[el,aN,iA,x,<-F.o];omega
   ·simp only[Value.ownBlock,fH]at hi;subst hi;rcases hg with y|y
    ·exact .inl (by rw[b];exact y)
    ·exact .inr y)
  go_wp2_with fail;go_end0;exact⟨rfl,S.o⟩
def Oz (k base:Nat)(v:aK)(f:List Bool)(w:aH)(h:Sk w k base v f):Calls prog 59 #[E k] w fun e w'=>e= .returned v/\w'=w:=by
 obtain⟨B,h⟩:=h;obtain⟨i,_⟩:=gB h.blk;obtain⟨j,m,l,d⟩:∃a n c,v= .slice a n c:=by
  obtain⟨_,⟨b,_⟩|⟨g,cap,_,b,_⟩⟩:=h.own
  ·exact⟨_,_,_,b⟩
  ·exact⟨_,_,_,b⟩
 subst d;clear h;go_enter func59,ntmps59;go_wp2_with fail;go_ret;exact⟨rfl,rfl⟩
def zH (k base kind:Nat)(last:Bool)(v:aK)(f:List Bool)(w:aH)(h:Sk w k base v f)(hk:kind<4)(q:f.length<70368744160000)(d:base<=w.heap.size):Calls prog 99 #[E k,V kind, .bool last] w fun e w'=>e= .returned (.tuple #[])/\∃l,Sk w' k base l (f++bS last kind)/\dH k w v w' l:=by
 have HB:=hide (fun x (p:x<2)=>Nh k base x v f w h p (by omega) d);have b:=hide (show∀(x:Nat) (w1:aH) (v1:aK),Sk w1 k base v1 (f++[decide (x=1)])->dH k w v w1 v1->Calls prog 93 #[E k,V kind,V 2] w1 fun e w'=>e= .returned (.tuple #[])/\∃l,Sk w' k base l (f++[decide (x=1)]++numBits kind 2)/\dH k w v w' l from fun x w1 v1 i a=>by
  have:=a.step.size;refine(IG k base kind 2 v1 _ w1 i (by omega) (by omega) (by simp;omega) (by omega)).mono ?_;rintro e w2 ⟨rfl,m,j,c⟩;exact⟨rfl,m,j,a.trans c⟩)
 cases last with
 |true=>
  go_enter func99,ntmps99;go_wp2_with fail;apply(HB.o 1 (by omega)).mono;rintro r w1 ⟨rfl,v1,i,a⟩;have n:=hide (b.o 1 w1 v1 i a);go_wp2_with fail;apply n.o.mono;rintro r w2 ⟨rfl,m,j,c⟩;have g:=hide (aQ j c);go_wp2_with fail;go_end0;exact⟨rfl,m,by have:=g.o.1;rw[dB]at this;exact this,g.o.2⟩
 |false=>
  go_enter func99,ntmps99;go_wp2_with fail;apply(HB.o 0 (by omega)).mono;rintro r w1 ⟨rfl,v1,i,a⟩;have n:=hide (b.o 0 w1 v1 i a);go_wp2_with fail;apply n.o.mono;rintro r w2 ⟨rfl,m,j,c⟩;have g:=hide (aQ j c);go_wp2_with fail;go_end0;exact⟨rfl,m,by have:=g.o.1;rw[dB]at this;exact this,g.o.2⟩
structure y9 (w:aH)(k:Nat)(u:aK)(ys:aD):Prop where
 bytes:tZ w u ys
 far:∀j off n c,u= .slice (some (U j off)) n c->j≠k/\j<w.heap.size
def y9.go {l:aK}(h:y9 w k u ys)(d:dH k w v w' l)(f:∀j off n c,u= .slice (some (U j off)) n c->v.ownBlock≠some j):y9 w' k u ys:=by
 have g:=d.step.size;refine⟨?_,fun j off n c a=>⟨(h.far j off n c a).1,nM (h.far j off n c a).2 g⟩⟩;rcases h.bytes with e|⟨j,off,cap,a,b⟩
 ·exact .inl e
 ·refine .inr ⟨j,off,cap,a,fun i hi=>d.step.cell (p:=⟨j,off+i,none⟩) (b i hi) (fun y=> ?_)⟩;rcases y with y|y
  ·exact(h.far j off _ _ a).1 y
  ·exact f j off _ _ a y
def QC (k base:Nat)(last:Bool)(v u:aK)(b:List Bool)(ys:aD)(w:aH)(h:Sk w k base v b)(L:y9 w k u ys)(N:∀j off n c,u= .slice (some (U j off)) n c->j<base)(Z:∀y∈ys,y<256)(t:ys.length<=65535)(hl:b.length<70368743000000)(g:base<=w.heap.size):Calls prog 98 #[E k,u, .bool last] w fun e w'=>e= .returned (.tuple #[])/\∃v',Sk w' k base v' (b++bF b.length ys last)/\dH k w v w' v':=by
 have HH:=hide (zH k base 0 last v b w h (by omega) (by omega) g);obtain⟨ua,uc,l⟩:∃a c,u= .slice a ys.length c:=by
  rcases L.bytes with⟨a,c,rfl,rfl⟩|⟨j,off,cap,rfl,_⟩
  ·exact⟨a,c,rfl⟩
  ·exact⟨_,_,rfl⟩
 have HU:=hide L;have HY:=hide Z;have i:(ys.length:Int)<=65535:=by omega
 obtain⟨m,K⟩:=aP ys.length;rw[<-K]at l i;have HM:=hide K;have d:∀(w1:aH) (v1:aK) (b1:List Bool),Sk w1 k base v1 b1->∀j off n c,u= .slice (some (U j off)) n c->v1.ownBlock≠some j:=fun w1 v1 b1 q j off n c M J=>by
  obtain⟨B1,q⟩:=q;have:=(q.own.lt j J).1;have:=N j off n c M;omega
 have HO:=hide d;have G:=hide (d w v b h);clear L Z K d;rw[l];go_enter func98,ntmps98;go_wp2_with fail;apply HH.o.mono;rintro r w1 ⟨rfl,v1,q,P⟩;have X:=hide (aa5 k base v1 _ w1 q);have W:=hide (aQ q P);go_wp2_with fail;apply X.o.mono;rintro r w2 ⟨rfl,Y,p⟩;have I:(b++bS last 0++dW (b++bS last 0).length).length<70368743001000:=by
  simp only[aN,aT];unfold dW;rw[dQ];omega
 have Q:base<=w2.heap.size:=by have:=W.o.2.step.size;have:=p.size;omega
 have HN:=hide (IG k base m 16 v1 _ w2 Y (by omega) (by omega) (by omega) Q);have H2:=hide (W.o.2.trans (Xx v1 p));clear X Y p;go_wp2_with fail;apply HN.o.mono;rintro r w3 ⟨rfl,v3,h3,z⟩;have R:base<=w3.heap.size:=by have:=z.step.size;omega
 have aa:(65535:Int)-(m:Int)=((65535-m:Nat):Int):=by omega
 have F:=hide (IG k base (65535-m) 16 v3 _ w3 h3 (by omega) (by omega) (by rw[aN,aM];omega) R);have H3:=hide (H2.o.trans z);go_wp2_with fail;apply F.o.mono;rintro r w4 ⟨rfl,v4,h4,A⟩;have S:base<=w4.heap.size:=by have:=A.step.size;omega
 have f:=H3.o.trans A;have x:=HU.o.go f G.o;have HB:=hide (Qt k base v4 u _ ys w4 h4 x.bytes HY.o (by have:=t;simp only[aN,aM]at I |-;omega) S (fun j off n c J=>(x.far j off n c J).1));have H4:=hide f;rw[l]at HB;go_wp2_with fail;apply HB.o.mono;rintro r w5 ⟨rfl,T,D,C⟩;have s:=hide (show Sk w5 k base T (b++bF b.length ys last)/\dH k w v w5 T from⟨by
  have e1:(b++bS last 0).length=b.length+3:=by rw[aN,aT]
  have e2:dW (b++bS last 0++dW (b++bS last 0).length++numBits m 16++numBits (65535-m) 16).length=[]:=by
   have H:=Eu (b++bS last 0).length;simp only[aN,aM]at H|-
   unfold dW at H|-
   rw[List.replicate_eq_nil_iff];simp only[dQ]at H|-
   omega
  rw[e2,bG,e1]at D;unfold bF;rw[<-HM.o];simp only[dB]at D|-
  exact D,H4.o.trans C⟩)
 clear D C HB;go_wp2_with fail;go_end0;exact⟨rfl,T,s.o⟩
inductive wH:Nat->aD->List Bool->Prop
 |last (n:Nat) (ys:aD) (h:ys.length<=65535):wH n ys (bF n ys true)
 |more (n:Nat) (ys:aD) (bits:List Bool) (h:65535<ys.length) (ht:wH (n+(bF n (ys.take 65535) false).length) (ys.drop 65535) bits):wH n ys (bF n (ys.take 65535) false++bits)
def Ph:∀k n (ys:aD),ys.length<=k->∃bits,wH n ys bits:=by
 intro k;induction k with
 |zero=>intro n ys h;exact⟨_, .last n ys (by omega)⟩
 |succ k ih=>
  intro n ys h;by_cases a:ys.length<=65535
  ·exact⟨_, .last n ys a⟩
  ·obtain⟨bits,b⟩:=ih (n+(bF n (ys.take 65535) false).length) (ys.drop 65535) (by rw[dX];omega);exact⟨_, .more n ys bits (by omega) b⟩
def qL (n:Nat)(l:aD)(last:Bool):(bF n l last).length<=3+7+32+8*l.length/\(n+(bF n l last).length)%8=0:=by unfold bF dW;simp only[aN,aT,aM,iA,dQ];omega
def FH (k base box:Nat)(last:Bool)(v u:aK)(d:List Bool)(ys:aD)(w:aH)(h:Sk w k base v d)(m:w.cell? (U box 0)=some (E k))(g:∃a n c,u= .slice a n c)(z:y9 w k u ys)(i:∀j off n c,u= .slice (some (U j off)) n c->j<base)(A:∀y∈ys,y<256)(f:ys.length<=65535)(x:d.length<70368743000000)(b:base<=w.heap.size):Calls prog 97 #[u, .bool last,E box] w fun e w'=>e= .returned (.tuple #[])/\∃p,Sk w' k base p (d++bF d.length ys last)/\dH k w v w' p:=by have q:=hide (QC k base last v u d ys w h z i A f x b);obtain⟨a,n,c,rfl⟩:=g;go_enter func97,ntmps97;go_wp2_with fail;apply q.o.mono;rintro r w1 ⟨rfl,v1,t,l⟩;have s:=hide (aQ t l);go_wp2_with fail;go_end0;exact⟨rfl,v1,s.o⟩
structure InB (w wr:aH)(k base j o c:Nat)(v v1:aK)(zs:aD)(b1 b2:List Bool):Prop where
 sk:Sk wr k base v1 b1
 wrt:dH k w v wr v1
 lies:nI wr j o zs
 byte:∀y∈zs,y<256
 rest:wH b1.length zs b2
 cap:zs.length<=c
def InB.far {wr:aH}{j o c:Nat}{v1:aK}{a:aD}{b1 b2:List Bool}(h:InB w wr k base j o c v v1 a b1 b2)(g:j≠k/\j<base)(f:base<=wr.heap.size)(m b:Nat)(e:m<=a.length):y9 wr k (.slice (some (U j o)) m b) (a.take m):=by
 refine⟨.inr ⟨j,o,b,by rw[dF,vV e],fun i hi=> ?_⟩,fun l off n c2 d=> ?_⟩
 ·rw[dF]at hi;rw[h.lies i (by omega),jQ (by omega)]
 ·simp only[nK,fH,wG,jX]at d;rw[<-d.1.1];omega
def InB.next {wr w1:aH}{j o c:Nat}{v1 b:aK}{a:aD}{b1 d:List Bool}{b2:List Bool}(h:InB w wr k base j o c v v1 a b1 b2)(m:j≠k/\j<base)(s:65535<a.length)(f:Sk w1 k base b (b1++bF b1.length (a.take 65535) false))(e:dH k wr v1 w1 b)(n:wH (b1.length+(bF b1.length (a.take 65535) false).length) (a.drop 65535) d):InB w w1 k base j (o+65535) (c-65535) v b (a.drop 65535) (b1++bF b1.length (a.take 65535) false) d:=by
 refine⟨f,h.wrt.trans e,fun i hi=> ?_,fun y q=>h.byte y (IC q),by rw[aN];exact n,by have:=h.cap;rw[dX];omega⟩;rw[dX]at hi;have g:=e.step.cell (p:=⟨j,o+(65535+i),none⟩) (h.lies (65535+i) (by omega)) (fun y=>by
  rcases y with y|y
  ·exact m.1 y
  ·obtain⟨r,l⟩:=h.sk;have:=(l.own.lt j y).1;omega)
 rw[iV,g,kM]
def Gp (k base box j off cap:Nat)(v:aK)(q:List Bool)(ys:aD)(bits:List Bool)(w:aH)(h:Sk w k base v q)(D:w.cell? (U box 0)=some (E k))(Q:box≠k/\box<base)(S:nI w j off ys)(I:j≠k/\j<base)(F:ys.length<=cap)(X:∀y∈ys,y<256)(hr:wH q.length ys bits)(hl:q.length+9*ys.length<70368740000000)(P:base<=w.heap.size):Calls prog 96 #[.slice (some (U j off)) ys.length cap,V 65535, .func (.func 97) #[] #[E box]] w fun e w'=>e= .returned (.tuple #[])/\∃v',Sk w' k base v' (q++bits)/\dH k w v w' v':=by
 have HH:=hide (show InB w w k base j off cap v v ys q bits from⟨h,dH.refl _ _ _,S,X,hr,F⟩);have W:∀(wr:aH) (v1:aK),dH k w v wr v1->wr.cell? (U box 0)=some (E k):=fun wr v1 hw=>hw.step.cell (p:=(U box 0)) D (fun y=>by
  rcases y with y|y
  ·exact Q.1 y
  ·obtain⟨B1,hB⟩:=h;have:=(hB.own.lt box y).1;omega)
 go_enter func96,ntmps96;go_wp2_with fail;go_loopg [0] ys.length (fun g u0 wr=>∃(n o c:Nat) (v1:aK) (f:aD) (b1 b2:List Bool),u0= .slice (some (U j o)) n c/\n=f.length/\n<=g/\q++bits=b1++b2/\InB w wr k base j o c v v1 f b1 b2/\b1.length+9*n<=q.length+9*ys.length/\c<=cap);case atStart=>exact⟨ys.length,off,cap,v,ys,q,bits,rfl,rfl,aS _,rfl,HH.o,aS _,aS _⟩
 case round=>
  obtain⟨n,o,c,v1,f,b1,b2,rfl,hn,ag,b,a,ac,ae⟩:=hrel;have G:=W wr v1 a.wrt;have ah:=a.wrt.step.size;have H:=a.cap;by_cases aa:65535<n
  ·have z:(n:Int)>65535:=(by omega);have ad:(65535:Int)<=(c:Int):=(by omega);have af:(65535:Int)<=(n:Int):=(by omega);have ab:¬c=65535:=(by omega);have R:65535<c:=(by omega);obtain⟨M,s,t⟩:∃M,b2=bF b1.length (f.take 65535) false++M/\wH (b1.length+(bF b1.length (f.take 65535) false).length) (f.drop 65535) M:=by
    rcases a.rest with⟨_,_,m⟩|⟨_,_,l,m,Y⟩
    ·omega
    ·exact⟨l,rfl,Y⟩
   have N:=FH k base box false v1 (.slice (some (U j o)) 65535 c) b1 (f.take 65535) wr a.sk G ⟨_,_,_,rfl⟩ (a.far I (by omega) 65535 c (by omega)) (fun j' K n' c' J=>by
    simp only[nK,fH,wG,jX]at J;rw[<-J.1.1];exact I.2) (fun y X=>a.byte y (zN X)) (by rw[dF];omega) (by omega) (by omega)
   have i:=hide (aQ a (aQ s (aQ t (aQ b hn))));clear a s t b hn H;go_wp2_with fail;apply N.mono;rintro r w1 ⟨rfl,L,m,d⟩;have x:=hide (aQ m d);clear m d;go_wp2_with fail;go_roundg (gk-65535);case measure=>omega
   case rel=>
    obtain⟨a,s,t,b,hn⟩:=i.o;obtain⟨m,d⟩:=x.o;have T:=(qL b1.length (f.take 65535) false).1;refine⟨n-65535,o+65535,c-65535,L,f.drop 65535,b1++bF b1.length (f.take 65535) false,M,rfl,by rw[dX,hn],by omega,by rw[b,s,dB],a.next I (by omega) m d t,?_,by omega⟩;rw[aN];rw[dF]at T;omega
  ·have z:¬(n:Int)>65535:=(by omega);have C:b2=bF b1.length f true:=by
    rcases a.rest with⟨_,_,m⟩|⟨_,_,l,m,Y⟩
    ·rfl
    ·omega
   have N:=FH k base box true v1 (.slice (some (U j o)) n c) b1 f wr a.sk G ⟨_,_,_,rfl⟩ (by
    have Z:=a.far I (by omega) n c (by omega);rw[kW (by omega)]at Z;exact Z) (fun j' K n' c' J=>by
    simp only[nK,fH,wG,jX]at J;rw[<-J.1.1];exact I.2) a.byte (by omega) (by omega) (by omega)
   have i:=hide (aQ a.wrt (aQ C b));clear a C b hn H;go_wp2_with fail;apply N.mono;rintro r w1 ⟨rfl,L,m,d⟩;have A:=hide (show Sk w1 k base L (q++bits)/\dH k w v w1 L from⟨by
    rw[i.o.2.2,i.o.2.1];exact m,i.o.1.trans d⟩)
   go_wp2_with fail;go_end0;exact⟨rfl,L,A.o⟩
def YG (k base box:Nat)(a:Option Addr)(c:Nat)(v:aK)(g:List Bool)(w:aH)(h:Sk w k base v g)(i:w.cell? (U box 0)=some (E k))(x:∀j off,a=some (U j off)->j<k)(z:k<base)(C:g.length<70368740000000)(b:base<=w.heap.size):Calls prog 96 #[.slice a 0 c,V 65535, .func (.func 97) #[] #[E box]] w fun e w'=>e= .returned (.tuple #[])/\∃s,Sk w' k base s (g++bF g.length [] true)/\dH k w v w' s:=by
 have l:∀j off n d,Value.slice a 0 c= .slice (some (U j off)) n d->j<k:=fun j off n d f=>by
  simp only[nK]at f;exact x j off f.1
 have p:=hide (FH k base box true v (.slice a 0 c) g [] w h i ⟨_,_,_,rfl⟩ ⟨.inl ⟨a,c,rfl,rfl⟩,fun j off n d f=>by have:=l j off n d f;omega⟩ (fun j off n d f=>by have:=l j off n d f;omega) (fun y A=>by simp at A) (by simp) (by omega) b);clear h;go_enter func96,ntmps96;go_wp2_with fail;go_loopg [0] 1 (fun _ u0 wr=>u0= .slice a 0 c/\wr=w);case atStart=>exact⟨rfl,rfl⟩
 case round=>
  obtain⟨rfl,rfl⟩:=hrel;go_wp2_with fail;apply p.o.mono;rintro r w1 ⟨rfl,v1,q,m⟩;have t:=hide (aQ q m);clear q m p;go_wp2_with fail;go_end0;exact⟨rfl,v1,t.o⟩
structure BytesIn (w:aH)(u:aK)(ys:aD):Prop where
 bytes:tZ w u ys
 byte:∀y∈ys,y<256
 old:∀j off n c,u= .slice (some (U j off)) n c->j<w.heap.size
 cap:∀a n c,u= .slice a n c->n<=c
 len:ys.length<=1048576
def BytesIn.shape (h:BytesIn w u ys):∃a c,u= .slice a ys.length c:=by
 rcases h.bytes with⟨a,c,rfl,rfl⟩|⟨j,off,cap,rfl,_⟩
 ·exact⟨a,c,rfl⟩
 ·exact⟨_,_,rfl⟩
def BytesIn.step0 (h:BytesIn w u ys)(hs:O w w'):BytesIn w' u ys:=by
 have f:=hs.size;refine⟨?_,h.byte,fun j off n c d=>by have:=h.old j off n c d;omega,h.cap,h.len⟩;rcases h.bytes with b|⟨j,off,cap,e,a⟩
 ·exact .inl b
 ·exact .inr ⟨j,off,cap,e,fun i hi=>hs.cell (p:=⟨j,off+i,none⟩) (a i hi) (fun y=>y)⟩
def oI (w w':aH)(v:aK)(bits:List Bool):Prop:=∃B,w'.ownsRow w.heap.size 5 1 v B.length (jR B)/\bQ bits B/\B.length=(bits.length+7)/8/\O w w'
def ZR (k base box:Nat)(v u:aK)(f:List Bool)(ys:aD)(bits:List Bool)(w:aH)(h:Sk w k base v f)(d:w.cell? (U box 0)=some (E k))(l:box≠k/\box<base)(g:BytesIn w u ys)(hold:∀j off n c,u= .slice (some (U j off)) n c->j<k)(m:k<base)(r:wH f.length ys bits)(A:f.length<1000)(b:base<=w.heap.size):Calls prog 96 #[u,V 65535, .func (.func 97) #[] #[E box]] w fun e w'=>e= .returned (.tuple #[])/\∃s,Sk w' k base s (f++bits)/\dH k w v w' s:=by
 have q:=g.len;by_cases p:ys=[]
 ·subst p;have x:bits=bF f.length [] true:=by
   rcases r with⟨_,_,i⟩|⟨_,_,b2,i,z⟩
   ·rfl
   ·simp at i
  obtain⟨a,c,rfl⟩:=g.shape;rw[x];exact YG k base box a c v f w h d (fun j off t=>by subst t;exact hold j off _ _ rfl) m (by omega) b
 ·rcases g.bytes with⟨a,c,rfl,i⟩|⟨j,off,cap,rfl,o⟩
  ·exact absurd i p
  ·have y:=hold j off _ _ rfl;exact Gp k base box j off cap v f ys bits w h d l o ⟨by omega,by omega⟩ (g.cap _ _ _ rfl) g.byte r (by omega) b
def EP (u:aK)(ys:aD)(bits:List Bool)(w:aH)(A:BytesIn w u ys)(K:wH 0 ys bits):Calls prog 60 #[u] w fun e w'=>∃L,e= .returned L/\oI w w' L bits:=by
 have T:=ar9;obtain⟨X,Y,l⟩:=A.shape;have H:=hide A;have P:=hide K;have Q:=hide l;clear A K;generalize ys.length=m at l;subst l;go_enter func60,ntmps60;go_wp2_with fail;obtain⟨k,hk⟩:=aP w.heap.size;obtain⟨w2,b⟩:=aP ((w.alloc (.cells #[.slice none 0 0,V 0] 103)).alloc (.cells #[E w.heap.size] 101));have f:O w w2:=by rw[b];exact((aU _ _).alloc _).alloc _
 have W:w2.heap.size=k+2:=by rw[b,hk];simp
 have x:w2.heap[k]? =some (.cells #[.slice none 0 0,V 0] 103 (0,0)):=by
  rw[b,hk];exact(dG _ _ _ (by simp)).trans (aR _ _)
 have d:w2.cell? ⟨k+1,0,none⟩=some (E k):=by
  have I:=aR (w.alloc (.cells #[.slice none 0 0,V 0] 103)) (.cells #[E w.heap.size] 101);rw[show(w.alloc (.cells #[.slice none 0 0,V 0] 103)).heap.size=w.heap.size+1 by simp,<-b,<-hk]at I;exact aC I 0 _ rfl
 have z:Sk w2 k (k+2) (.slice none 0 0) []:=⟨[],x,jJ _ _ _ _,bQ.nil,rfl,by omega⟩
 have S:w.heap.size<=k:=by omega
 have J:k<=w.heap.size:=by omega
 rw[<-b,<-hk];have C:=hide f;clear b hk;refine(ZR k (k+2) (k+1) (.slice none 0 0) (.slice X m Y) [] ys bits w2 z d ⟨by omega,by omega⟩ (H.o.step0 f) (fun j off n c A=>by have:=H.o.old j off n c A;omega) (by omega) P.o (by simp) (by omega)).mono ?_;rintro r w3 ⟨rfl,G,s,q⟩;rw[iO]at s;have R:=q.step.cell (p:=⟨k+1,0,none⟩) d (fun y=>by
  rcases y with y|y
  ·have y:k+1=k:=y;omega
  ·cases y)
 have N:=hide (Oz k (k+2) G bits w3 s);have M:=hide (show oI w w3 G bits from by
  obtain⟨B,t⟩:=s;refine⟨B,bH t.own (by omega),t.bits,t.len,C.o.trans' q.step (fun i hi y=> ?_)⟩;rcases y with y|y
  ·omega
  ·cases y)
 obtain⟨Z,vn,vc,F⟩:∃a n c,G= .slice a n c:=by
  obtain⟨B,t⟩:=s;obtain⟨_,⟨D,_⟩|⟨g,cap,_,D,_⟩⟩:=t.own
  ·exact⟨_,_,_,D⟩
  ·exact⟨_,_,_,D⟩
 subst F;clear s q z f d x;go_wp2_with fail;apply N.o.mono;rintro r w4 ⟨rfl,rfl⟩;go_wp2_with fail;go_ret;exact⟨_,rfl,M.o⟩
end Go.Proofs.YtbpahojchgpdnaaGreatDoor
