import Derived.Test.YtbpahojchgpdnaaGreatDoorAround
set_option maxRecDepth 20000
set_option maxHeartbeats 4000000
set_option linter.all false
namespace Go.Proofs.YtbpahojchgpdnaaGreatDoor
open Go.RowKit Go.dM Go.Proofs.Tryz
variable {w:aH} {base x:Nat} {b:bY}
structure XS where
 at_:Nat
 err:Nat
 v:aK
 out:aD
 most:Nat
 name:bY
def XS.cells (b:bY)(s:XS):Array aK:=#[.string b,V (s.at_:Nat),V (s.err:Nat),s.v,V (s.most:Nat), .string s.name]
structure j6 (w:aH)(x base:Nat)(b:bY)(s:XS):Prop where
 blk:w.heap[x]? =some (.cells (s.cells b) 167 (0,0))
 own:w.ownsRow base 5 1 s.v s.out.length (jR s.out)
 aq4:x<base
 af8:base<=w.heap.size
 there:s.at_<=8*b.size
 much:b.size<=140737488351232
def j6.cell {s:XS}(h:j6 w x base b s):w.cell? (U x 0)=some (.string b)/\w.cell? (U x 1)=some (V s.at_)/\w.cell? (U x 2)=some (V s.err)/\w.cell? (U x 3)=some s.v/\w.cell? (U x 4)=some (V s.most)/\w.cell? (U x 5)=some (.string s.name):=⟨aC h.blk 0 _ rfl,aC h.blk 1 _ rfl,aC h.blk 2 _ rfl,aC h.blk 3 _ rfl,aC h.blk 4 _ rfl,aC h.blk 5 _ rfl⟩
def j6.free {s:XS}(h:j6 w x base b s)(i:Nat):w.frozen? (U x i)=false:=aJ h.blk i
def j6.yL {s:XS}(h:j6 w x base b s):s.v.ownBlock≠some x:=fun e=>by
 have:=(h.own.lt x e).1;have:=h.aq4;omega
def j6.set {s s':XS}(h:j6 w x base b s)(i:Nat)(u:aK)(c:(s.cells b).set! i u=s'.cells b)(g:s'.v=s.v)(d:s'.out=s.out)(f:s'.at_<=8*b.size):j6 (w.setCell (U x i) u) x base b s':=by
 refine⟨?_,?_,h.aq4,by simpa[World.setCell]using h.af8,f,h.much⟩
 ·have:=aV h.blk i u;rw[c]at this;exact this
 ·rw[g,d];exact mI h.own (a:=(U x i)) (fun e=>h.yL e) u
def j6.step {S:Nat->Prop}{w':aH}{s:XS}(h:j6 w x base b s)(hs:Step S w w')(c:¬S x)(a:∀k,s.v.ownBlock=some k->¬S k):j6 w' x base b s:=⟨hs.at_ h.blk c,bX h.own (fun k hk=>hs.block k (h.own.lt k hk).2 (a k hk)),h.aq4,bB h.af8 hs.size,h.there,h.much⟩
def j6.step0 {w':aH}{s:XS}(h:j6 w x base b s)(hs:O w w'):j6 w' x base b s:=h.step hs (fun y=>y) (fun _ _ y=>y)
def j6.drew {s:XS}(h:j6 w x base b s):j6 w.drew x base b s:=h.step0 ((aU _ _).drew)
def j6.vQ {s:XS}(h:j6 w x base b s):∃a c,s.v= .slice a s.out.length c:=by
 obtain⟨_,⟨d,hn⟩|⟨g,cap,_,d,_⟩⟩:=h.own
 ·exact⟨none,0,by rw[d,hn]⟩
 ·exact⟨_,_,d⟩
def dH.aw5 {v:aK}(i:Nat)(u:aK):dH x w v (w.setCell (U x i) u) v:=⟨(aU _ w).setCell (p:=(U x i)) (.inl rfl) u,fun _ h=> .inl h⟩
def iK (x base e:Nat)(b:bY)(s:XS)(w:aH)(h:j6 w x base b s):Calls prog 145 #[E x,V e] w fun r w'=>r= .returned (.tuple #[])/\j6 w' x base b { s with err:=if s.err=0 then e else s.err }/\dH x w s.v w' s.v:=by
 obtain⟨_,_,c2,_⟩:=h.cell;have f2:=h.free 2;by_cases a:s.err=0
 ·rw[aA a];rw[a]at c2;have c:=hide (h.set (s':={ s with err:=e }) 2 (V e) (by simp[XS.cells]) rfl rfl h.there);go_enter func145,ntmps145;go_wp2_with fail;go_end0;exact⟨rfl,c.o,dH.aw5 2 _⟩
 ·rw[aB a];have d:((s.err:Int)==0)=false:=aX.2 (by omega);go_enter func145,ntmps145;go_wp2_with fail;go_end0;exact⟨rfl,h,dH.refl _ _ _⟩
def Aq (a:Nat)(d:a<256):bits .and .i64 (a:Int) 1=((a%2:Nat):Int):=by
 have e:a&&&1<2^63:=IZ _ (by omega);have c:bits .and .i64 (a:Int) ((1:Nat):Int)=((a&&&1:Nat):Int):=by
  show IntKind.i64.wrap ((BitVec.ofInt 64 (a:Int)&&&BitVec.ofInt 64 ((1:Nat):Int)).toNat:Int)=_;rw[GI,j5 64 a (by omega),j5 64 1 (by omega),dK];omega
 rw[OZ]at c;exact c
def p8 (b:bY)(s:XS):Nat×XS:=
 if s.err≠0 then(0,s)else if s.at_<8*b.size then(bK (bytesOf b) s.at_,{ s with at_:=s.at_+1 })else(0,{ s with err:=3 })
def Ox (b:bY)(s:XS):(p8 b s).1<2:=by
 unfold p8;split
 ·simp
 ·split
  ·exact kQ _ _
  ·simp
def Xe (b:bY)(s:XS):(p8 b s).2.v=s.v/\(p8 b s).2.out=s.out/\(p8 b s).2.most=s.most/\(p8 b s).2.name=s.name:=by
 unfold p8;split
 ·exact⟨rfl,rfl,rfl,rfl⟩
 ·split<;>exact⟨rfl,rfl,rfl,rfl⟩
def YL (x base:Nat)(b:bY)(s:XS)(w:aH)(h:j6 w x base b s):Calls prog 139 #[E x] w fun r w'=>r= .returned (V ((p8 b s).1:Nat))/\j6 w' x base b (p8 b s).2/\dH x w s.v w' s.v:=by
 obtain⟨K,c1,c2,_⟩:=h.cell;have f1:=h.free 1;have M:=h.much;have N:=h.there;unfold p8;by_cases g:s.err=0
 ·rw[aB (by omega)];rw[g]at c2;by_cases f:s.at_<8*b.size
  ·rw[aA f];have hk:s.at_/8<b.size:=(by omega);have A:=b[s.at_/8].toNat_lt;have d:bits BinOp.and IntKind.i64 (((b[s.at_/8].toNat:Nat):Int)/2^(s.at_%8)) 1=(bK (bytesOf b) s.at_:Nat):=by
    have e:(((b[s.at_/8].toNat:Nat):Int)/2^(s.at_%8))=((b[s.at_/8].toNat/2^(s.at_%8):Nat):Int):=(by simp);rw[e,Aq _ (JC (DU _ _) A)];unfold bK;rw[BX b _ hk]
   have q:=hide (show∀n,j6 ((w.drewN n).setCell (U x 1) (V ((s.at_:Int)+1))) x base b { s with at_:=s.at_+1 }/\dH x w s.v ((w.drewN n).setCell (U x 1) (V ((s.at_:Int)+1))) s.v from fun n=>⟨(h.step0 ((aU (fun _=>False) _).drewN n)).set (s':={ s with at_:=s.at_+1 }) 1 _ (by simp[XS.cells]) rfl rfl (by dsimp only;omega),((dH.refl x w s.v).drewN n).trans (dH.aw5 1 _)⟩);obtain⟨k,a⟩:=aP (s.at_/8);have C:(s.at_:Int)/8=(k:Int):=(by omega);have D:k<b.size:=(by omega);have l:(k:Int)<(b.size:Int):=(by omega);have p:(0:Int)<=(k:Int):=(by omega);have F:IntKind.i64.wrap (k:Int)=(k:Int):=(by rw[dK];omega);have z:IntKind.i64.wrap ((b[k].toNat:Nat):Int)=((b[k].toNat:Nat):Int):=(by have:=b[k].toNat_lt;rw[dK];omega);obtain⟨m,c⟩:=aP (s.at_%8);have J:((s.at_:Nat):Int).tmod 8=(m:Int):=(by rw[P7 (by omega)];omega);have G:(0:Int)<=(m:Int):=(by omega);have H:(m:Int)<8:=(by omega);have I:m<8:=(by omega);have i:=hide c;have u:=hide a;clear h g a;go_enter func139,ntmps139;go_wp2_with fail;go_quiet (fail);go_wp2_with fail;go_region_held3 (fun w'=>w'.cell? (U x 0)=some (.string b)/\w'.cell? (U x 1)=some (V s.at_)) (go_keep) (fail);go_wp2_with fail;go_ret;rw[<-d];have a:=u.o;subst a;have c:=i.o;subst c;exact⟨rfl,q.o _⟩
  ·rw[aB f];have B:8*(b.size:Int)<=(s.at_:Int):=(by omega);go_enter func139,ntmps139;go_wp2_with fail;go_quiet (fail);go_wp2_with fail;apply(iK x base 3 b s (w.drewN nq) (h.step0 ((aU (fun _=>False) _).drewN nq))).mono;rintro r w1 ⟨rfl,j,y⟩;rw[aA g]at j;have t:=hide (show dH x w s.v w1 s.v from((dH.refl x w s.v).drewN nq).trans y);go_wp2_with fail;go_ret;exact⟨rfl,j,t.o⟩
 ·rw[aA g];have L:((s.err:Int) !=0)=true:=by rw[jP];omega
  go_enter func139,ntmps139;go_wp2_with fail;go_ret;exact⟨rfl,h,dH.refl _ _ _⟩
def cB (b:bY)(s:XS):Nat->Nat×XS
 |0=>(0,s)
 |n+1=>((cB b s n).1+(p8 b (cB b s n).2).1*2^n,(p8 b (cB b s n).2).2)
def jM (b:bY)(s:XS)(n:Nat):(cB b s n).1<2^n:=by
 induction n with
 |zero=>simp[cB]
 |succ n ih=>
  have c:=Ox b (cB b s n).2;rw[cB,gW];dsimp only;have a:(p8 b (cB b s n).2).1=0\/(p8 b (cB b s n).2).1=1:=by omega
  rcases a with a|a<;>rw[a]<;>omega
def oD (b:bY)(s:XS)(h:s.err≠0)(n:Nat):cB b s n=(0,s):=by
 induction n with
 |zero=>rfl
 |succ n ih=>
  rw[cB,ih];have e:p8 b s=(0,s):=by unfold p8;rw[aA h]
  dsimp only;rw[e];simp
def jH (b:bY)(s:XS)(h:s.err=0)(n:Nat)(hn:s.at_+n<=8*b.size):cB b s n=(aG (bytesOf b) s.at_ n,{ s with at_:=s.at_+n }):=by
 induction n with
 |zero=>rfl
 |succ n ih=>
  rw[cB,ih (by omega)];have e:p8 b { s with at_:=s.at_+n }=(bK (bytesOf b) (s.at_+n),{ s with at_:=s.at_+n+1 }):=by
   unfold p8;rw[aB (by dsimp only;omega),aA (by dsimp only;omega)]
  dsimp only;rw[e];rfl
def j3 (b:bY)(s:XS)(h:s.err=0)(c:s.at_<=8*b.size)(n:Nat)(hn:8*b.size<s.at_+n):(cB b s n).2={ s with at_:=8*b.size,err:=3 }:=by
 induction n with
 |zero=>omega
 |succ n ih=>
  rw[cB];by_cases a:8*b.size<s.at_+n
  ·rw[ih a];unfold p8;rw[aA (by dsimp only;omega)]
  ·rw[jH b s h n (by omega)];unfold p8;rw[aB (by dsimp only;omega),aB (by dsimp only;omega)];have:s.at_+n=8*b.size:=(by omega);rw[this]
def pW (b:bY)(s:XS)(n:Nat):(cB b s n).2.v=s.v/\(cB b s n).2.out=s.out/\(cB b s n).2.most=s.most/\(cB b s n).2.name=s.name:=by
 induction n with
 |zero=>exact⟨rfl,rfl,rfl,rfl⟩
 |succ n ih=>
  have h:=Xe b (cB b s n).2;exact⟨h.1.trans ih.1,h.2.1.trans ih.2.1,h.2.2.1.trans ih.2.2.1,h.2.2.2.trans ih.2.2.2⟩
def gD (x base n:Nat)(b:bY)(s:XS)(w:aH)(h:j6 w x base b s)(hn:n<=60):Calls prog 140 #[E x,V n] w fun r w'=>r= .returned (V ((cB b s n).1:Nat))/\j6 w' x base b (cB b s n).2/\dH x w s.v w' s.v:=by
 go_enter func140,ntmps140;go_wp2;go_loopw [5,6] (fun v i wr=>∃k:Nat,k<=n/\i=V k/\v=V ((cB b s k).1:Nat)/\j6 wr x base b (cB b s k).2/\dH x w s.v wr s.v) (fun _ i _=>n-(intOf i).toNat);case atStart=>exact⟨0,iZ _,rfl,rfl,h,dH.refl _ _ _⟩
 case round=>
  obtain⟨k,hk,rfl,rfl,u,C⟩:=hrel;by_cases H:k<n
  ·have c:=YL x base b (cB b s k).2 wr u;have p:=Ox b (cB b s k).2;have q:=jM b s k;have a:=jM b s (k+1);have hp:2^(k+1)<=2^60:=gL (by omega) (by omega);have t:2^k<=2^60:=gL (by omega) (by omega);have l:(cB b s (k+1)).1=(cB b s k).1+(p8 b (cB b s k).2).1*2^k:=rfl;rw[l]at a;rw[(pW b s k).1]at c;obtain⟨y,A⟩:=aP ((p8 b (cB b s k).2).1);obtain⟨z,B⟩:=aP ((cB b s k).1);rw[<-A,<-B]at l a;have G:=hide A;have d:wrap64 ((y:Int)*2^k)=((y*2^k:Nat):Int):=by
    have e:((y:Int)*2^k)=((y*2^k:Nat):Int):=(by simp);rw[e,IL _ ⟨by omega,by omega⟩]
   have m:wrap64 ((z:Int)+((y*2^k:Nat):Int))=((z+y*2^k:Nat):Int):=by
    have e:((z:Int)+((y*2^k:Nat):Int))=((z+y*2^k:Nat):Int):=(by omega);rw[e,IL _ ⟨by omega,by omega⟩]
   have j:=hide d;rw[<-B];clear u A B q a p hp t d;go_wp2_with fail;apply c.mono;rintro e w1 ⟨rfl,g,f⟩;rw[<-G.o];have D:=hide g;have F:=hide (C.trans f);clear g f;go_wp2_with fail;refine⟨⟨k+1,by omega,by go_num,?_,D.o,F.o⟩,by simp[intOf];omega⟩;rw[j.o,m,l]
  ·have:k=n:=(by omega);subst this;go_wp2_with fail;go_ret;exact⟨rfl,u,C⟩
def Fz (x base:Nat)(b:bY)(s:XS)(w:aH)(h:j6 w x base b s):Calls prog 146 #[E x] w fun r w'=>r= .returned (.tuple #[])/\j6 w' x base b { s with at_:=(s.at_+7)/8*8 }/\dH x w s.v w' s.v:=by
 have p:=h.there;have n:=h.much;go_enter func146,ntmps146;go_wp2;go_loopg [8] 8 (fun k u wr=>∃a:Nat,s.at_<=a/\a<=(s.at_+7)/8*8/\(s.at_+7)/8*8<=a+k/\j6 wr x base b { s with at_:=a }/\dH x w s.v wr s.v);case atStart=>exact⟨s.at_,by omega,by omega,by omega,h,dH.refl _ _ _⟩
 case round=>
  obtain⟨a,i,j,l,c,e⟩:=hrel;obtain⟨_,c1,_⟩:=c.cell;have f1:=c.free 1;dsimp only at c1;by_cases m:a%8=0
  ·have d:((a:Nat):Int).tmod 8=0:=(by rw[P7 (by omega)];omega);have g:a=(s.at_+7)/8*8:=(by omega);go_wp2_with fail;go_end0;exact⟨rfl,by rw[<-g];exact c,e⟩
  ·have d:(((a:Nat):Int).tmod 8 !=0)=true:=(by rw[P7 (by omega),jP];omega);have f:=hide (c.set (s':={ s with at_:=a+1 }) 1 (V ((a:Int)+1)) (by simp[XS.cells]) rfl rfl (by dsimp only;omega));go_wp2_with fail;go_roundg (gk-1);case measure=>omega
   case rel=>exact⟨a+1,by omega,by omega,by omega,f.o,e.trans (dH.aw5 1 _)⟩
def j6.app {w1:aH}{g cap c:Nat}{s:XS}(h:j6 w x base b s)(d:w1.ownsRow base 5 1 (.slice (some (U g 0)) (s.out.length+1) cap) (s.out.length+1) (jR s.out++[.int .u8 (c:Nat)]))(hs:Step (fun k=>s.v.ownBlock=some k) w w1)(l:s.v.ownBlock=some g\/w.heap.size<=g):w1.heap[x]? =some (.cells (s.cells b) 167 (0,0))/\j6 (w1.setCell (U x 3) (.slice (some (U g 0)) (s.out.length+1) cap)) x base b { s with out:=s.out++[c],v:= .slice (some (U g 0)) (s.out.length+1) cap }/\dH x w s.v (w1.setCell (U x 3) (.slice (some (U g 0)) (s.out.length+1) cap)) (.slice (some (U g 0)) (s.out.length+1) cap):=by
 have f:=hs.at_ h.blk (fun e=>h.yL e);have m:base<=g:=(d.lt g rfl).1;have o:=h.aq4;refine⟨f,⟨?_,?_,h.aq4,?_,h.there,h.much⟩,⟨?_,?_⟩⟩
 ·have:=aV f 3 (.slice (some (U g 0)) (s.out.length+1) cap);simpa[XS.cells]using this
 ·have n:=mI d (a:=(U x 3)) (by simp[Value.ownBlock];omega) (.slice (some (U g 0)) (s.out.length+1) cap);have i:(s.out++[c]).length=s.out.length+1:=by simp
  have j:jR (s.out++[c])=jR s.out++[.int .u8 (c:Nat)]:=by simp[jR]
  show World.ownsRow _ _ _ _ _ (s.out++[c]).length (jR (s.out++[c]));rw[i,j];exact n
 ·have:=h.af8;have:=hs.size;simp[World.setCell];omega
 ·exact(hs.mono (fun k hk=> .inr hk)).setCell (p:=(U x 3)) (.inl rfl) _
 ·intro k hk;simp only[Value.ownBlock,fH]at hk;subst hk;exact l
def qR (c:Nat)(s:XS)(v':aK):XS:=if s.err≠0 then s else if s.out.length<s.most then{ s with out:=s.out++[c],v:=v' }else{ s with err:=11 }
def QG (x base c:Nat)(b:bY)(s:XS)(w:aH)(h:j6 w x base b s)(R:s.most<=1048576):Calls prog 166 #[E x, .int .u8 (c:Nat)] w fun r w'=>r= .returned (.tuple #[])/\∃a,j6 w' x base b (qR c s a)/\dH x w s.v w' (qR c s a).v:=by
 obtain⟨_,_,c2,c3,c4,_⟩:=h.cell;have f2:=h.free 2;have P:=h.free 3;by_cases m:s.err=0;case neg=>
  have hp:∀a,qR c s a=s:=fun a=>by unfold qR;rw[aA m]
  have Q:((s.err:Int) !=0)=true:=by rw[jP];omega
  go_enter func166,ntmps166;go_wp2_with fail;refine aY (mD rfl _ _ _) rfl ?_;exact⟨rfl,s.v,by rw[hp];exact h,by rw[hp];exact dH.refl _ _ _⟩
 obtain⟨T,W,l⟩:=h.vQ;rw[l]at c3;rw[m]at c2;by_cases F:s.out.length<s.most
 ·have hp:∀a,qR c s a={ s with out:=s.out++[c],v:=a }:=fun a=>by unfold qR;rw[aB (by omega),aA F]
  have d:=h.own;rw[l]at d;have n:=h.af8;obtain⟨M,hi,z,A,B⟩:=eD info5;go_enter func166,ntmps166;go_wp2_with fail;go_quiet (fail);go_wp2_with (at_builtin;refine fQ _ rfl _ _ 31 rfl base 5 M (.int .u8 0) 1 1 underlying31 hi z A B rfl (by decide) _ s.out.length (jR s.out) rfl (by exact d.alloc _) (U w.heap.size 0) 1 1 [.int .u8 (c:Nat)] rfl rfl ?c1 ?c2 (by decide) ?c3 ?c4 ?c5 ?_);case c1=>
   intro j u i;match j,i with
   |0,i=>simp at i;subst i;exact jO (aR (w.drewN nq) (.cells #[.int .u8 (c:Nat)] 5))
  case c2=>intro u G;simp at G;subst G;rfl
  case c3=>unfold maxLen;omega
  case c4=>omega
  case c5=>simp;omega
  intro g C w1 e p J;have q:Step (fun k=>s.v.ownBlock=some k) w w1:=(((aU (fun k=>s.v.ownBlock=some k) w).drewN nq).alloc _).grown p (fun k hk=> .inl (by rw[l];exact hk));obtain⟨f,y,t⟩:=h.app (c:=c) e q (by rw[l];exact J.imp id (fun L=>bB (by simp) L));have S:=(show w1.cell? (U x 3)=some s.v from aC f 3 _ rfl)
  have N:=(show w1.frozen? (U x 3)=false from aJ f 3)
  go_wp2_with fail;go_end0;exact⟨rfl,_,by rw[hp];exact y,by rw[hp];exact t⟩
 ·have hp:∀a,qR c s a={ s with err:=11 }:=fun a=>by unfold qR;rw[aB (by omega),aB F]
  have K:(s.most:Int)<=(s.out.length:Int):=by omega
  go_enter func166,ntmps166;go_wp2_with fail;go_quiet (fail);go_wp2_with fail;apply(iK x base 11 b s (w.drewN nq) (h.step0 ((aU (fun _=>False) _).drewN nq))).mono;rintro r w1 ⟨rfl,D,I⟩;rw[aA m]at D;have H:=hide (show dH x w s.v w1 s.v from((dH.refl x w s.v).drewN nq).trans I);go_wp2_with fail;refine aY (mD rfl _ _ _) rfl ?_;exact⟨rfl,s.v,by rw[hp];exact D,by rw[hp];exact H.o⟩
def Fq (L:aD)(h:∀i:Nat,L[i]?.getD 0<=15)(k:Nat):eG L k=1->(iD L k=16384↔dY L 1 k=1):=by
 have f:∀k,eG L k=0->iD L k=0/\dY L 1 k=0:=by
  intro k;induction k with
  |zero=>intro _;exact⟨rfl,rfl⟩
  |succ k ih=>
   intro a;rw[eG]at a;have hk:L[k]?.getD 0=0:=by
    by_cases hp:0<L[k]?.getD 0
    ·rw[aA hp]at a;omega
    ·omega
   have:=ih (by omega);rw[iD,dY,hk];exact⟨by simp;exact this.1,by simp;exact this.2⟩
 induction k with
 |zero=>intro c;simp[eG]at c
 |succ k ih=>
  intro c;rw[eG]at c;rw[iD,dY];by_cases hp:0<L[k]?.getD 0
  ·rw[aA hp]at c|-
   have a:=f k (by omega);rw[a.1,a.2];have j:=h k;by_cases d:L[k]?.getD 0=1
   ·rw[d];simp
   ·rw[aB d];have g:32768/2^(L[k]?.getD 0)<=32768/2^2:=Nat.div_le_div_left (gL (by omega) (by omega)) (by decide);constructor
    ·intro e;omega
    ·intro e;omega
  ·rw[aB hp]at c|-
   have:=ih (by omega);rw[aB (by omega)];simpa using this
def Uv (L:aD)(none_:Bool):Bool:=if none_ then p9 L else fF L
def Ht (L:aD)(l k:Nat):dY L l k<=k:=by
 induction k with
 |zero=>simp[dY]
 |succ k ih=>rw[dY];split<;>omega
def ap2 (L:aD)(h:∀i:Nat,L[i]?.getD 0<=15)(none_:Bool):Uv L none_=(iD L L.length==32768||(eG L L.length==1&&dY L 1 L.length==1)||(none_&&eG L L.length==0)):=by
 have d:(eG L L.length==1&&iD L L.length==16384)=(eG L L.length==1&&dY L 1 L.length==1):=by
  by_cases c:eG L L.length=1
  ·have:=Fq L h L.length c;rw[c];by_cases a:iD L L.length=16384
   ·rw[a,this.1 a];rfl
   ·have hn:¬dY L 1 L.length=1:=fun x=>a (this.2 x);rw[aX.2 a,aX.2 hn]
  ·rw[aX.2 c];rfl
 unfold Uv p9 fF;rw[d];cases none_ with
 |true=>simp;exact Bool.or_comm _ _
 |false=>simp
def IV (a c:Nat):((a:Int)==(c:Int))=(a==c):=by
 by_cases h:a=c
 ·subst h;simp
 ·rw[aX.2 h,aX.2 (by omega)]
def F8 (g off cap:Nat)(none_:Bool)(L:aD)(w:aH)(h:Ints w g off L):Calls prog 171 #[.slice (some (U g off)) L.length cap, .bool none_] w fun e w'=>e= .returned (.bool (Uv L none_))/\w'=w:=by
 have hm:=h.much;have T:=ap2 L h.le none_;have A:=hide T;clear T;go_enter func171,ntmps171;go_wp2;go_loop [5,6,7,8] (fun y m o i=>∃k:Nat,k<=L.length/\i=V k/\y=V (iD L k:Nat)/\m=V (eG L k:Nat)/\o=V (dY L 1 k:Nat)) (fun _ _ _ i=>L.length-(intOf i).toNat);case atStart=>exact⟨0,by omega,rfl,rfl,rfl,rfl⟩
 case round=>
  obtain⟨k,hk,rfl,rfl,rfl,rfl⟩:=hrel;have Z:=TA L k;have h2:=PK L k;have h3:=Ht L 1 k;by_cases G:k<L.length
  ·have hc:=h.cell k G;have u:=h.le k;obtain⟨q,H⟩:=aP (L[k]?.getD 0);rw[<-H]at hc u;have a:=hide H;clear H;by_cases t:0<q
   ·have v:(15:Int)-(q:Int)=((15-q:Nat):Int):=(by omega);have s:32768/2^q=2^(15-q):=(by rw[show(32768:Nat)=2^15 by rfl,Nat.pow_div u (by omega)]);have F:2^(15-q)<=2^15:=gL (by omega) (by omega);obtain⟨d,D⟩:=aP (2^(15-q));obtain⟨r,J⟩:=aP (15-q);have aa:(2:Int)^r=(d:Int):=(by rw[D,J];simp);rw[<-J]at v;rw[<-D]at s F;have X:wrap64 (d:Int)=(d:Int):=IL (d:Int) ⟨by omega,by omega⟩;have z:=hide s;clear s D J;by_cases f:q=1
    ·have B:((q:Int)==1)=true:=dI.2 (by omega);have P:d=16384:=(by have h:=z.o;rw[f]at h;omega);have Y:=hide P;clear P;go_wp2;exact⟨⟨k+1,by omega,by go_num,by rw[iD,<-a.o,aA t,z.o,Y.o];go_num,by rw[eG,<-a.o,aA t];go_num,by rw[dY,<-a.o,aA f];go_num⟩,by simp[intOf];omega⟩
    ·have B:((q:Int)==1)=false:=aX.2 (by omega);go_wp2;exact⟨⟨k+1,by omega,by go_num,by rw[iD,<-a.o,aA t,z.o];go_num,by rw[eG,<-a.o,aA t];go_num,by rw[dY,<-a.o,aB f];go_num⟩,by simp[intOf];omega⟩
   ·have I:q=0:=(by omega);subst I;go_wp2;go_round;case rel=>exact⟨k+1,by omega,by go_num,by rw[iD,<-a.o,aB t];go_num,by rw[eG,<-a.o,aB t];go_num,by rw[dY,<-a.o,aB (by omega)];go_num⟩
    case measure=>simp[intOf];omega
  ·have:k=L.length:=(by omega);subst this;obtain⟨W,S⟩:=aP (iD L L.length);obtain⟨C,Q⟩:=aP (eG L L.length);obtain⟨c,R⟩:=aP (dY L 1 L.length);rw[<-S,<-Q,<-R]at A|-
   clear S Q R Z h2 h3;obtain⟨N,n⟩:=aP (W==32768);obtain⟨K,j⟩:=aP (C==1);obtain⟨M,l⟩:=aP (c==1);obtain⟨bz,p⟩:=aP (C==0);have iw:((W:Int)==32768)=N:=(by rw[n];exact IV W 32768);have ic:((C:Int)==1)=K:=(by rw[j];exact IV C 1);have io:((c:Int)==1)=M:=(by rw[l];exact IV c 1);have iz:((C:Int)==0)=bz:=(by rw[p];exact IV C 0);rw[<-n,<-j,<-l,<-p]at A;clear n j l p;rcases none_ with _|_<;>rcases N with _|_<;>rcases K with _|_<;>rcases M with _|_<;>rcases bz with _|_;all_goals
    go_wp2;go_ret;exact⟨by rw[A.o];rfl,rfl⟩
def iL (n c k v:Nat):Bool:=decide (k<=n)&&decide (0<n)&&(c/2^(n-k)==v)
def Kn (n c k v:Nat)(w:aH)(hn:n<=15)(q:c<2^40)(s:v<2^40)(hk:k<=16):Calls prog 188 #[.agg #[nat n,nat c], .agg #[nat k,nat v]] w fun e w'=>e= .returned (.bool (iL n c k v))/\O w w':=by
 have g:O w ((w.alloc (.cells #[nat n,nat c] 234)).alloc (.cells #[nat k,nat v] 234)):=((aU _ _).alloc _).alloc _;by_cases o:k<=n
 ·by_cases t:0<n;focus
   have i:(n:Int)-(k:Int)=((n-k:Nat):Int):=(by omega);have f:((c:Int)/2^(n-k))=((c/2^(n-k):Nat):Int):=(by simp);obtain⟨d,j⟩:=aP (c/2^(n-k));have a:iL n c k v=(d==v):=(by unfold iL;rw[j,eU o,eU t];simp);rw[<-j]at f;have u:=IV d v;rw[a];obtain⟨r,p⟩:=aP (n-k);rw[<-p]at i f;clear a j p
  rotate_left;focus
   have m:n=0:=(by omega);subst m;have l:k=0:=(by omega);subst l;have a:iL 0 c 0 v=false:=(by unfold iL;simp);rw[a]
  all_goals
   go_enter func188,ntmps188;go_wp2_with fail;go_quiet (fail);go_wp2_with fail;go_ret;exact⟨rfl,g.drewN _⟩
 ·have a:iL n c k v=false:=by unfold iL;simp[o]
  rw[a];have y:¬(k:Int)<=(n:Int):=by omega
  go_enter func188,ntmps188;go_wp2_with fail;go_quiet (fail);go_wp2_with fail;go_ret;exact⟨rfl,g.drewN _⟩
def gP (L:aD)(s:Nat):Nat×Nat:=if 1<=L[s]?.getD 0/\L[s]?.getD 0<=15 then(L[s]?.getD 0,Go.dM.keyOf L s-2^(L[s]?.getD 0))else(0,0)
def nD (L:aD)(n k s:Nat):Nat×Nat:=if L[s]?.getD 0<n\/(L[s]?.getD 0=n/\s<k)then gP L s else(0,0)
def iY (f:Nat->Nat×Nat)(i:Nat):aK:=if i%2=0 then nat (f (i/2)).1 else nat (f (i/2)).2
def info234:(prog.info? 234).map (fun i=>(i.zero,i.size,i.bytes))=some (some (.agg #[V 0,V 0]),2,16):=by kernel_rfl
def xQ (L:aD)(n k:Nat):Nat:=2*(nx L (n-1)-2^(n-1))+dY L n k
def Bq (L:aD)(n k s:Nat)(h:L[k]?.getD 0≠n):nD L n (k+1) s=nD L n k s:=by
 unfold nD;by_cases hs:L[s]?.getD 0=n
 ·have:s≠k:=fun e=>h (e▸hs);by_cases c:s<k
  ·rw[aA (.inr ⟨hs,by omega⟩),aA (.inr ⟨hs,c⟩)]
  ·rw[aB (by omega),aB (by omega)]
 ·by_cases a:L[s]?.getD 0<n
  ·rw[aA (.inl a),aA (.inl a)]
  ·rw[aB (by omega),aB (by omega)]
def Kq (L:aD)(n k s:Nat)(hn:1<=n)(d:n<=15)(h:L[k]?.getD 0=n):nD L n (k+1) s=if s=k then(n,xQ L n k)else nD L n k s:=by
 by_cases hs:s=k
 ·subst hs;rw[aA rfl];unfold nD gP;rw[aA (.inr ⟨h,by omega⟩),aA (by omega),h];unfold xQ Go.dM.keyOf;rw[h];have a:=LC L (n-1);have c:2^n=2*2^(n-1):=by rw[<-Nat.pow_succ',show(n-1).succ=n by omega]
  rw[c];congr 1;omega
 ·rw[aB hs];unfold nD;by_cases a:L[s]?.getD 0<n\/(L[s]?.getD 0=n/\s<k)
  ·rw[aA a,aA (a.imp id (fun x=>⟨x.1,by omega⟩))]
  ·rw[aB a,aB (by omega)]
def Gl (L:aD)(n s:Nat)(hs:s<L.length):nD L n L.length s=nD L (n+1) 0 s:=by
 unfold nD;by_cases a:L[s]?.getD 0<n\/(L[s]?.getD 0=n/\s<L.length)
 ·rw[aA a,aA (.inl (by omega))]
 ·rw[aB a,aB (by omega)]
def Rc (L:aD)(n:Nat)(hn:1<=n):xQ L n L.length=nx L n-2^n:=by
 obtain⟨m,rfl⟩:∃m,n=m+1:=⟨n-1,by omega⟩
 unfold xQ;rw[nx,sV,gW];have:=LC L m;omega
def a08 (L:aD)(c:L.length<=1000)(n k:Nat)(hn:n<=15)(d:1<=n)(hk:k<=L.length):xQ L n k<=100000000:=by unfold xQ;have a:=DJ L c (n-1) (by omega);rw[kU]at a;have e:=Ht L n k;have f:=Nat.sub_le (nx L (n-1)) (2^(n-1));omega
def xU (g off cap:Nat)(L:aD)(w:aH)(h:Ints w g off L):Calls prog 167 #[.slice (some (U g off)) L.length cap] w fun e w'=>∃R,e= .returned (.slice (some (U R 0)) L.length L.length)/\w.heap.size<=R/\bA w' R 234 (2*L.length) (iY (gP L))/\O w w':=by
 obtain⟨i0,hi,P,Q,S⟩:=eD info234;have hm:=h.much;go_enter func167,ntmps167;go_wp2_with (at_make;refine sD _ rfl _ _ 187 rfl w.heap.size 234 i0 (.agg #[V 0,V 0]) 2 underlying187 hi P Q .i64 .i64 _ _ L.length rfl rfl rfl rfl (by rw[S];omega) (by unfold maxLen;omega) (aS _) ?_;intro w1 j m);have a:bA w1 w.heap.size 234 (2*L.length) (iY (nD L 1 0)):=by
  obtain⟨_,⟨N,_⟩|⟨g',W,p,N,_,hh,_,_,u,M⟩⟩:=j
  ·cases N
  ·cases N;refine⟨p,hh,by rw[u];omega,fun i G=> ?_⟩;have e1:p.toList=(madeCells (Value.agg #[V 0,V 0]).cells (L.length*2)).toList:=by
    rw[<-M,kW (by rw[IE,u];exact aS _)]
   have e2:p=madeCells (Value.agg #[V 0,V 0]).cells (L.length*2):=Array.toList_inj.1 e1;have hz:iY (nD L 1 0) i=V 0:=by
    have F:nD L 1 0 (i/2)=(0,0):=by
     unfold nD gP;by_cases t:L[i/2]?.getD 0<1\/(L[i/2]?.getD 0=1/\i/2<0)
     ·rw[aA t,aB (by omega)]
     ·rw[aB t]
    unfold iY;rw[F];split<;>rfl
   rw[hz,e2];have z:i%2=0\/i%2=1:=(by omega);unfold madeCells;rw[Array.getElem?_map,Array.getElem?_range,aA (by omega)];rcases z with t|t
   ·show some ((#[V 0,V 0]:Array aK)[i%2]!)=_;rw[t];rfl
   ·show some ((#[V 0,V 0]:Array aK)[i%2]!)=_;rw[t];rfl
 have c:O w w1:=(aU _ w).grown m (fun k hk=>by cases hk);obtain⟨R,Z⟩:=aP w.heap.size;rw[<-Z]at a|-
 have r:w.heap.size<=R:=by omega
 clear j m Z;go_wp2_with fail;go_loopw [4,5] (fun x i wr=>∃n:Nat,1<=n/\n<=16/\i=V n/\x=V ((nx L (n-1)-2^(n-1):Nat):Int)/\bA wr R 234 (2*L.length) (iY (nD L n 0))/\O w wr) (fun _ i _=>16-(intOf i).toNat);case atStart=>exact⟨1,by omega,by omega,rfl,rfl,a,c⟩
 case round=>
  clear a c;obtain⟨n,s,ae,rfl,rfl,a,c⟩:=hrel;by_cases v:n<=15
  ·have D:=DJ L hm (n-1) (by omega);rw[kU]at D;obtain⟨y,C⟩:=aP (nx L (n-1)-2^(n-1));rw[<-C];have ag:y<=32800768:=(by rw[C];exact bB (Nat.sub_le _ _) D);have d:=hide a;have f:=hide c;have T:=hide C;clear a c D C;go_wp2_with fail;go_loopw [4,6] (fun x i wr=>∃k:Nat,k<=L.length/\i=V (k:Nat)/\x=V (xQ L n k:Nat)/\bA wr R 234 (2*L.length) (iY (nD L n k))/\O w wr) (fun _ i _=>L.length-(intOf i).toNat);case atStart=>exact⟨0,by omega,rfl,by unfold xQ;rw[<-T.o];simp[dY],d.o,f.o⟩
   case round=>
    clear d f T;obtain⟨k,hk,rfl,rfl,a,c⟩:=hrel;by_cases I:k<L.length
    ·have hc:=(h.step c (fun x=>x)).cell k I;have H:=h.le k;have af:=a08 L hm n k v s hk;obtain⟨q,B⟩:=aP (L[k]?.getD 0);rw[<-B]at hc H;have A:=hide B;have ad:(k:Int)<(L.length:Int):=(by omega);have ac:(0:Int)<=(k:Int):=(by omega);by_cases l:q=n
     ·have K:((q:Int)==(n:Int))=true:=dI.2 (by omega);have z0:=a.cell (k*2) (by omega);have z1:=a.cell (k*2+1) (by omega);have aa:=a.free (k*2);have ab:=a.free (k*2+1);have d:=hide a;have f:=hide c;clear B a c;go_wp2_with fail;refine⟨⟨k+1,by omega,by go_num,?_,?_,?_⟩,by simp[intOf];omega⟩
      ·have e9:xQ L n (k+1)=xQ L n k+1:=by
        unfold xQ;rw[dY,<-A.o,aA l];omega
       rw[e9];go_num
      ·refine((d.o.set (k*2) (V n)).set (k*2+1) (V (xQ L n k:Nat))).congr fun i _=> ?_;have hp:=Kq L n k (i/2) s v (by rw[<-A.o];exact l);unfold iY;by_cases X:i=k*2+1
       ·rw[aA X,aB (by omega),hp,aA (by omega)]
       ·rw[aB X];by_cases Y:i=k*2
        ·rw[aA Y,aA (by omega),hp,aA (by omega)]
        ·have J:¬i/2=k:=(by omega);rw[aB Y,hp,aB J]
      ·exact(f.o.aZ r _).aZ r _
     ·have K:((q:Int)==(n:Int))=false:=aX.2 (by omega);have d:=hide a;have f:=hide c;clear B a c;go_wp2_with fail;refine⟨⟨k+1,by omega,by go_num,?_,?_,f.o⟩,by simp[intOf];omega⟩
      ·unfold xQ;rw[dY,<-A.o,aB l];rfl
      ·refine d.o.congr fun i _=> ?_;unfold iY;rw[Bq L n k _ (by rw[<-A.o];exact l)]
    ·have:k=L.length:=(by omega);subst this;go_wp2_with fail;go_roundw;case rel=>
      refine⟨n+1,by omega,by omega,by go_num,by rw[Rc L n s];rfl,?_,c⟩;refine a.congr fun i G=> ?_;unfold iY;rw[Gl L n (i/2) (by omega)]
     case measure=>simp[intOf];omega
  ·have:n=16:=(by omega);subst this;go_wp2_with fail;go_ret;refine⟨R,rfl,r,?_,c⟩;refine a.congr fun i _=> ?_;have F:nD L 16 0 (i/2)=gP L (i/2):=by
    unfold nD;have:=h.le (i/2);rw[aA (.inl (by omega))]
   unfold iY;rw[F]
def aq1 (L:aD)(d:nx L 15<=65536)(l:Nat)(c:l<=15):nx L l<=2^(l+1):=by
 have h:=GY L c;have e:65536=2^(l+1)*2^(15-l):=by rw[<-oZ,show l+1+(15-l)=16 by omega]
 have a:nx L l*2^(15-l)<=2^(l+1)*2^(15-l):=by omega
 exact Nat.le_of_mul_le_mul_right a (nC (by omega))
def Q7 (L:aD)(d:nx L 15<=65536)(s:Nat)(hs:s<L.length)(c:1<=L[s]?.getD 0)(a:L[s]?.getD 0<=15):2^(L[s]?.getD 0)<=Go.dM.keyOf L s/\Go.dM.keyOf L s<2^(L[s]?.getD 0+1):=by
 have f:=BH L s hs c;have g:=aq1 L d _ a;refine⟨?_,by omega⟩;unfold Go.dM.keyOf;have i:=LC L (L[s]?.getD 0-1);have e:2^(L[s]?.getD 0)=2*2^(L[s]?.getD 0-1):=by rw[<-Nat.pow_succ',show(L[s]?.getD 0-1).succ=L[s]?.getD 0 by omega]
 omega
def Qw (L:aD):(aI L).tab 1=none:=by
 cases h:(aI L).tab 1 with
 |none=>rfl
 |some s=>
  exfalso;obtain⟨c,d,e,a⟩:=(l8 L 15 1 s).1 h;unfold Go.dM.keyOf at a;have:=LC L (L[s]?.getD 0-1);have f:0<2^(L[s]?.getD 0-1):=nC (by omega);omega
def XJ (L:aD)(n:nx L 15<=65536)(f:∀i:Nat,L[i]?.getD 0<=15)(j K s:Nat)(p:2^j<=K/\K<2^(j+1))(hs:s<L.length):(iL (gP L s).1 (gP L s).2 j (K-2^j)=true/\(gP L s).1=j)↔(aI L).tab K=some s:=by
 constructor
 ·rintro⟨c,a⟩;unfold iL at c;simp only[DI,DC,dI]at c;have l:1<=L[s]?.getD 0:=by
   have d:=c.1.2;unfold gP at d;split at d
   ·rename_i e;exact e.1
   ·simp at d
  have k:gP L s=(L[s]?.getD 0,Go.dM.keyOf L s-2^(L[s]?.getD 0)):=by unfold gP;rw[aA ⟨l,f s⟩]
  rw[k]at c a;dsimp only at c a;have g:=Q7 L n s hs l (f s);have o:=c.2;rw[a,uL,Nat.pow_zero,Nat.div_one]at o;rw[a]at g;refine(l8 L 15 K s).2 ⟨hs,l,f s,?_⟩;omega
 ·intro h;obtain⟨_,a,d,e⟩:=(l8 L 15 K s).1 h;have g:=Q7 L n s hs a d;have m:L[s]?.getD 0=j:=by
   rw[<-e]at g;have a1:2^(L[s]?.getD 0)<2^(j+1):=(by omega);have a2:2^j<2^(L[s]?.getD 0+1):=(by omega);have b1:=(Nat.pow_lt_pow_iff_right (by omega:1<2)).1 a1;have b2:=(Nat.pow_lt_pow_iff_right (by omega:1<2)).1 a2;omega
  have k:gP L s=(L[s]?.getD 0,Go.dM.keyOf L s-2^(L[s]?.getD 0)):=by unfold gP;rw[aA ⟨a,d⟩]
  rw[k];refine⟨?_,m⟩;unfold iL;rw[m,eU (aS j),eU (by omega:0<j),uL,Nat.pow_zero,Nat.div_one,<-e];simp
def XB (L:aD)(l:Nat):∀k t,t<dY L l k->∃s,s<k/\L[s]?.getD 0=l/\dY L l s=t:=by
 intro k;induction k with
 |zero=>intro t h;simp[dY]at h
 |succ k ih=>
  intro t h;rw[dY]at h;by_cases hk:L[k]?.getD 0=l
  ·rw[aA hk]at h;by_cases e:t<dY L l k
   ·obtain⟨s,d,a,c⟩:=ih t e;exact⟨s,by omega,a,c⟩
   ·exact⟨k,by omega,hk,by omega⟩
  ·rw[aB hk]at h;obtain⟨s,d,a,c⟩:=ih t (by omega);exact⟨s,by omega,a,c⟩
def WT (L:aD)(m c:Nat)(i:1<=m)(d:2*nx L (m-1)<=c)(e:c<nx L m):∃s,s<L.length/\L[s]?.getD 0=m/\Go.dM.keyOf L s=c:=by
 obtain⟨l,rfl⟩:∃l,m=l+1:=⟨m-1,by omega⟩
 rw[sV]at d;rw[nx]at e;obtain⟨s,f,a,g⟩:=XB L (l+1) L.length (c-2*nx L l) (by omega);refine⟨s,f,a,?_⟩;unfold Go.dM.keyOf;rw[a,sV,g];omega
def au6 (L:aD)(g:∀i:Nat,L[i]?.getD 0<=15)(B:aD)(p j:Nat)(k:j<=15)(a:∀i,1<=i->i<=j->(aI L).tab (bU B p i)=none):nx L j<=bU B p j:=by
 induction j with
 |zero=>simp[nx,bU]
 |succ j ih=>
  have e:=ih (by omega) (fun i e c=>a i e (by omega));have c:=a (j+1) (by omega) (aS _);rcases mK (bU B p (j+1)) (nx L (j+1))with d|d
  ·exfalso;obtain⟨s,a1,a2,f⟩:=WT L (j+1) (bU B p (j+1)) (by omega) (by rw[bU,sV];omega) d;have:=(l8 L 15 (bU B p (j+1)) s).2 ⟨a1,by omega,g s,f.symm⟩;unfold aI at c;rw[c]at this;cases this
  ·exact d
def X9 (L:aD)(g:nx L 15<=65536)(c:∀i:Nat,L[i]?.getD 0<=15)(s j K:Nat)(hs:s<L.length)(a:1<=L[s]?.getD 0)(f:j<=L[s]?.getD 0)(hk:Go.dM.keyOf L s/2^(L[s]?.getD 0-j)=K):iL (gP L s).1 (gP L s).2 j (K-2^j)=true:=by
 have d:gP L s=(L[s]?.getD 0,Go.dM.keyOf L s-2^(L[s]?.getD 0)):=by unfold gP;rw[aA ⟨a,c s⟩]
 rw[d];unfold iL;dsimp only;rw[eU f,eU (by omega:0<L[s]?.getD 0)];simp only[Bool.true_and,dI];have k:=Q7 L g s hs a (c s);have e:2^(L[s]?.getD 0)=2^(L[s]?.getD 0-j)*2^j:=by rw[<-oZ,show L[s]?.getD 0-j+j=L[s]?.getD 0 by omega]
 rw[e,<-hk,Nat.sub_mul_div]
def Z0 (L:aD)(l:∀i:Nat,L[i]?.getD 0<=15)(r:nx L 15=65536)(B:aD)(p j:Nat)(t:j<=15)(g:∀i,1<=i->i<=j->(aI L).tab (bU B p i)=none):∃s,s<L.length/\iL (gP L s).1 (gP L s).2 j (bU B p j-2^j)=true:=by
 have u:=au6 L l B p j t g;have o:=(JD B p j).2;have f:∀d,j+d<=15->bU B p j*2^d<nx L (j+d)->∃m,j<m/\m<=j+d/\bU B p j*2^(m-j)<nx L m/\nx L (m-1)<=bU B p j*2^(m-1-j):=by
  intro d;induction d with
  |zero=>intro _ h;rw[Nat.pow_zero,wT,lN]at h;omega
  |succ d ih=>
   intro v h;by_cases q:bU B p j*2^d<nx L (j+d)
   ·obtain⟨m,a1,a2,a,k⟩:=ih (by omega) q;exact⟨m,a1,by omega,a,k⟩
   ·refine⟨j+d+1,by omega,by omega,?_,?_⟩
    ·rw[show j+d+1-j=d+1 by omega];exact h
    ·rw[show j+d+1-1-j=d by omega,show j+d+1-1=j+d by omega];omega
 have c:bU B p j*2^(15-j)<nx L (j+(15-j)):=by
  rw[show j+(15-j)=15 by omega,r];have e:65536=2^(j+1)*2^(15-j):=by rw[<-oZ,show j+1+(15-j)=16 by omega]
  rw[e];exact Nat.mul_lt_mul_of_pos_right o (nC (by omega))
 obtain⟨m,a1,a2,a,k⟩:=f (15-j) (by omega) c;obtain⟨s,b1,b2,n⟩:=WT L m (bU B p j*2^(m-j)) (by omega) (by
  have e:bU B p j*2^(m-j)=2*(bU B p j*2^(m-1-j)):=by
   rw[show m-j=(m-1-j)+1 by omega,gW,<-vK];omega
  rw[e];omega) a
 refine⟨s,b1,X9 L (by omega) l s j _ b1 (by omega) (by omega) ?_⟩;rw[n,b2,Nat.mul_div_cancel _ (nC (by omega))]
def YM (L:aD)(m:nx L 15<=65536)(f:∀i:Nat,L[i]?.getD 0<=15)(j K s:Nat)(g:2^j<=K/\K<2^(j+1))(k:(aI L).longest<=j)(e:(aI L).tab K=none)(hs:s<L.length):iL (gP L s).1 (gP L s).2 j (K-2^j)=false:=by
 cases hb:iL (gP L s).1 (gP L s).2 j (K-2^j)with
 |false=>rfl
 |true=>
  exfalso;have c:=hb;unfold iL at c;simp only[DI,DC,dI]at c;have l:1<=L[s]?.getD 0/\(gP L s).1=L[s]?.getD 0:=by
   have a:=c.1.2;unfold gP at a|-
   split at a
   ·rename_i d;exact⟨d.1,by rw[aA d]⟩
   ·simp at a
  have n:=SX L 15 s hs l.1 (f s);have a:(gP L s).1=j:=by
   have d:=c.1.1;unfold aI at k;omega
  have:=(XJ L m f j K s g hs).1 ⟨hb,a⟩;rw[e]at this;cases this
def Ry (L:aD)(s:Nat)(c:2<=L[s]?.getD 0):∀k,dY L 1 k<=eG L k/\(s<k->dY L 1 k+1<=eG L k):=by
 intro k;induction k with
 |zero=>simp[dY,eG]
 |succ k ih=>
  rw[dY,eG];by_cases a:L[k]?.getD 0=1
  ·rw[aA a,aA (by omega)];refine⟨by omega,fun hs=> ?_⟩;have:s≠k:=fun e=>by rw[e]at c;omega
   have:=ih.2 (by omega);omega
  ·rw[aB a];refine⟨by split<;>omega,fun hs=> ?_⟩;by_cases hk:s=k
   ·subst hk;rw[aA (by omega)];omega
   ·have:=ih.2 (by omega);split<;>omega
def VE (L:aD)(m:Nat)(h:∀i,i<L.length->L[i]?.getD 0<=m):∀l,(bZ L l).longest<=m:=by
 have c:∀l st k,k<=L.length->st.longest<=m->(bR L l st k).longest<=m:=by
  intro l st k;induction k with
  |zero=>intro _ a;simpa[bR]using a
  |succ k ih=>
   intro hk a;rw[bR];split
   ·rename_i d;have:=h k (by omega);show l<=m;omega
   ·exact ih (by omega) a
 intro l;induction l with
 |zero=>simp[bZ]
 |succ l ih=>rw[bZ];exact c _ _ _ (aS _) ih
def Bu (L:aD)(c:∀i:Nat,L[i]?.getD 0<=15)(d:p9 L=true):nx L 15<=65536:=by
 by_cases a:eG L L.length=0
 ·rw[Qo,OB L c];have e:∀k,k<=L.length->iD L k=0:=by
   intro k;induction k with
   |zero=>intro _;rfl
   |succ k ih=>
    intro hk;have:=Dr L L.length a k (by omega);rw[iD,ih (by omega),this];simp
  rw[e _ (aS _)];decide
 ·refine Go.dM.room L c ?_;unfold p9 at d;simpa[a]using d
def ac3 (L:aD)(c:∀i:Nat,L[i]?.getD 0<=15)(l:p9 L=true)(B:aD)(p j:Nat)(u:j<=(aI L).longest)(f:∀i,1<=i->i<=j->(aI L).tab (bU B p i)=none):(∃s,s<L.length/\iL (gP L s).1 (gP L s).2 j (bU B p j-2^j)=true)↔j<(aI L).longest:=by
 have n:=Bu L c l;have q:=pY L;constructor
 ·rintro⟨s,hs,g⟩;rcases mK j (aI L).longest with h|h
  ·exact h
  ·exfalso;have hn:(aI L).tab (bU B p j)=none:=by
    by_cases k:j=0
    ·subst k;exact Qw L
    ·exact f j (by omega) (aS _)
   rw[YM L n c j (bU B p j) s (JD B p j) h hn hs]at g;cases g
 ·intro e;by_cases a:iD L L.length=32768
  ·exact Z0 L c (by rw[Qo,OB L c,a]) B p j (by omega) f
  ·have k:eG L L.length≠0:=fun h=>by rw[G9 L h]at e;omega
   have o:eG L L.length=1/\iD L L.length=16384:=by
    unfold p9 fF at l;simpa[k,a]using l
   have t:=(Fq L c L.length o.1).1 o.2;obtain⟨s,a1,a2,_⟩:=XB L 1 L.length 0 (by omega);have d:∀i,i<L.length->L[i]?.getD 0<=1:=by
    intro i hi;rcases mK 1 (L[i]?.getD 0)with h|h
    ·have:=(Ry L i h L.length).2 hi;omega
    ·exact h
   have r:=VE L 1 d 15;unfold aI at e;have m:j=0:=(by omega);subst m;refine⟨s,a1,X9 L n c s 0 _ a1 (by omega) (by omega) ?_⟩;have g:=Q7 L n s a1 (by omega) (c s);rw[a2]at g|-
   simp only[bU];omega
end Go.Proofs.YtbpahojchgpdnaaGreatDoor
