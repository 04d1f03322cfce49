import Derived.Lib.Slices
import Derived.Test.YtbpahojchgpdnaaGreatDoorSteps
set_option maxRecDepth 20000
set_option maxHeartbeats 4000000
set_option linter.all false
namespace Go.Proofs.YtbpahojchgpdnaaGreatDoor
open Go.RowKit Go.dM Go.Maps Go.Proofs.Tryz
variable {base d e f n off p:Nat} {B out ys:aD} {w w':aH} {v:aK}
def VD {a:List Bool}{x j:Nat}(h:bC a p (nT x n))(b:j<=n):bC a p (rH x n j):=fun i hi=>by
 rw[xE]at hi
 have:=h i (by rw[uH];omega)
 rw[this]
 simp[nT,rH,hi,show i<n by omega]
def ag9 {L:aD}{g:List Bool}{s x:Nat}(k:bQ g B)(l:∀i:Nat,L[i]?.getD 0<=15)(hs:s<L.length)(hn:L[s]?.getD 0=n)(r:1<=n)(hk:dM.keyOf L s=2^n+x)(o:x<2^n)(q:fF L=true)(m:bC g p (nT x n))(hp:p+n<=8*B.length):vS (aI L).longest (aI L).tab B p (p+n) s:=by
 have c:=l s;have e:p+n-p=n:=by omega
 refine⟨by omega,?_,hp,?_,?_⟩
 ·rw[e,<-hn];exact SX L 15 s hs (by omega) c
 ·rw[e,Bf k p x n n o (aS _) m,uL,Nat.pow_zero,Nat.div_one,<-hk];exact found L s hs (by omega) c
 ·intro j a b;rw[e]at b;rw[Bf k p x n j o (by omega) (VD m (by omega)),<-hk,<-hn];exact Dx L (room L l q) s j hs (by omega) c a (by omega)
def Runs (B:aD)(s:PS)(e:Nat)(s':PS):Prop:=∃n,Oc B n s e s'
def Runs.step {s a s':PS}(h:AU B s a)(b:s.place≠3)(k:Runs B a e s'):Runs B s e s':=by obtain⟨n,hn⟩:=k;exact⟨n+1, .step n s a s' e h b hn⟩
def Runs.much {s s':PS}(h:Ag B s s')(a:s.place≠3):Runs B s 11 s':=⟨1, .much s s' h a⟩
def uY {a:List Bool}{l:List Bool}(h:bC a p l)(i:l≠[])(g:a.length<=8*B.length):p+l.length<=8*B.length:=by
 have b:0<l.length:=by cases l<;>simp_all
 have:=h (l.length-1) (by omega);rw[bV (show l.length-1<l.length by omega)]at this;have c:=(BD.1 this).1;omega
structure az9 (B:aD)(p q:Nat)(l:aD)(last:Bool):Prop where
 fits:∀s:PS,s.place=0->s.p=p->s.out.length+l.length<=s.most->∃s1:PS,s1.place=(if last then 3 else 0)/\s1.out=s.out++l/\s1.most=s.most/\s1.p=(if last then(q+7)/8*8 else q)/\∀e s',Runs B s1 e s'->Runs B s e s'
 much:∀s:PS,s.place=0->s.p=p->s.out.length<=s.most->s.most<s.out.length+l.length->∃s':PS,Runs B s 11 s'/\s'.out=s.out++l.take (s.most-s.out.length)
def KW {c:List Bool}(i:bQ c B)(l:c.length<=8*B.length)(p kind:Nat)(last:Bool)(hk:kind<4)(h:bC c p (bS last kind)):KM B p last kind:=by
 have j:bC c p [last]:=bC.left (b:=numBits kind 2) h;have k:bC c (p+1) (numBits kind 2):=bC.right (a:=[last]) h;have g:=uY h (by simp[bS]) l;rw[aT]at g;refine⟨g,?_,?_⟩
 ·have:=j 0 (by simp);rw[lN]at this;rw[i.bit,this];rfl
 ·rw[mR i (p+1) kind 2 k];exact kC (by omega)
def Qy {i:List Bool}(r:bQ i B)(t:i.length<=8*B.length)(l:aD):∀(s:PS),(∀c∈l,c<256)->s.place=1->s.left=l.length->l.length<=65535->bC i s.p (dA l)->s.out.length+l.length<=s.most->∀e s',Runs B { s with out:=s.out++l,left:=0,p:=s.p+8*l.length } e s'->Runs B s e s':=by
 induction l with
 |nil=>
  intro s _ _ m _ _ _ e s' h;have:({ s with out:=s.out++[],left:=0,p:=s.p+8*([]:aD).length }:PS)=s:=by cases s;simp_all
  rw[this]at h;exact h
 |cons c l ih=>
  intro s k g m j u y e s' h;have a:bC i s.p (numBits c 8++dA l):=by simpa[dA]using u
  have b:=uY a.left (by simp[numBits]) t;rw[aM]at b;have hn:aG B s.p 8=c:=by rw[mR r s.p c 8 a.left];exact kC (k c (by simp))
  have o:=a.right;rw[aM]at o;simp only[iN]at m y j;refine Runs.step (.byte s g (by omega) (by omega) b (by omega)) (by omega) ?_;rw[hn];refine ih { s with out:=s.out++[c],left:=s.left-1,p:=s.p+8 } (fun x z=>k x (by simp[z])) g (by show s.left-1=_;omega) (by omega) o (by show(s.out++[c]).length+l.length<=s.most;simp;omega) e s' ?_;have q:(s.out++[c])++l=s.out++c::l:=by simp
  show Runs B { s with out:=(s.out++[c])++l,left:=0,p:=s.p+8+8*l.length } e s';rw[q,show s.p+8+8*l.length=s.p+8*(c::l).length by simp;omega];exact h
def Kl {k:List Bool}(A:bQ k B)(C:k.length<=8*B.length)(l:aD):∀(s:PS),(∀c∈l,c<256)->s.place=1->s.left=l.length->l.length<=65535->bC k s.p (dA l)->s.out.length<=s.most->s.most<s.out.length+l.length->∃s',Runs B s 11 s'/\s'.out=s.out++l.take (s.most-s.out.length):=by
 induction l with
 |nil=>intro s _ _ _ _ _ u o;simp at o;omega
 |cons c l ih=>
  intro s r g F q D u o;have a:bC k s.p (numBits c 8++dA l):=by simpa[dA]using D
  have b:=uY a.left (by simp[numBits]) C;rw[aM]at b;have hn:aG B s.p 8=c:=by rw[mR A s.p c 8 a.left];exact kC (r c (by simp))
  have t:=a.right;rw[aM]at t;simp only[iN]at F o q;by_cases i:s.out.length=s.most
  ·exact⟨_,Runs.much (.byte s g (by omega) (by omega) b i) (by omega),by simp[i]⟩
  ·have j:=AU.byte (B:=B) s g (by omega) (by omega) b (by omega);rw[hn]at j;obtain⟨s',y,z⟩:=ih { s with out:=s.out++[c],left:=s.left-1,p:=s.p+8 } (fun x H=>r x (by simp[H])) g (by show s.left-1=_;omega) (by omega) t (by show(s.out++[c]).length<=s.most;simp;omega) (by show s.most<(s.out++[c]).length+l.length;simp;omega);refine⟨s',Runs.step j (by omega) y,?_⟩;rw[z];obtain⟨m,G⟩:∃m,s.most-s.out.length=m+1:=⟨s.most-s.out.length-1,by omega⟩
   show(s.out++[c])++l.take (s.most-(s.out++[c]).length)=_;rw[G,aN,iN,pE,show s.most-(s.out.length+(0+1))=m by omega];simp
def UW {y:List Bool}(m:bQ y B)(o:y.length<=8*B.length)(p:Nat)(l:aD)(last:Bool)(I:∀c∈l,c<256)(x:l.length<=65535)(h:bC y p (bF p l last)):az9 B p (p+(bF p l last).length) l last:=by
 obtain⟨q,J⟩:=aP ((p+3+7)/8*8);have G:(dW (p+3)).length=q-(p+3):=by simp[dW];omega
 have u:(bF p l last).length=q-p+32+8*l.length:=by
  unfold bF;simp only[aN,aT,aM,iA,G];omega
 have g:=h.right (a:=bS last 0++dW (p+3)++numBits l.length 16++numBits (65535-l.length) 16) (b:=dA l);have A:=bC.left (a:=bS last 0++dW (p+3)++numBits l.length 16++numBits (65535-l.length) 16) (b:=dA l) h;have k:=bC.right (a:=bS last 0++dW (p+3)++numBits l.length 16) (b:=numBits (65535-l.length) 16) A;have H:=bC.left (a:=bS last 0++dW (p+3)++numBits l.length 16) (b:=numBits (65535-l.length) 16) A;have j:=bC.right (a:=bS last 0++dW (p+3)) (b:=numBits l.length 16) H;have t:=KW m o p 0 last (by omega) (bC.left (a:=bS last 0) (b:=dW (p+3)) (bC.left (a:=bS last 0++dW (p+3)) (b:=numBits l.length 16) H));have C:=uY A (by simp[bS]) o;simp only[aN,aT,aM,G]at g k j C;rw[show p+(3+(q-(p+3)))=q by omega]at j;rw[show p+(3+(q-(p+3))+16)=q+16 by omega]at k;rw[show p+(3+(q-(p+3))+16+16)=q+32 by omega]at g;have a1:aG B q 16=l.length:=by rw[mR m q _ 16 j];exact kC (by omega)
 have a2:aG B (q+16) 16=65535-l.length:=by rw[mR m (q+16) _ 16 k];exact kC (by omega)
 have r:p+(bF p l last).length=q+32+8*l.length:=by rw[u];omega
 have i:=uY h (by simp[bF,bS]) o;rw[r]at i|-
 refine⟨fun s z hp M=> ?_,fun s z hp D F=> ?_⟩
 ·subst hp;refine⟨PS.ended { s with last:=last,place:=1,out:=s.out++l,left:=0,p:=q+32+8*l.length } (q+32+8*l.length),rfl,rfl,rfl,rfl,fun e s' N=> ?_⟩;refine Runs.step (.stored s q l.length last z t J (by omega) a1 a2 x) (by omega) ?_;refine Qy m o l { s with last:=last,left:=l.length,place:=1,p:=q+32 } I rfl rfl x g M e s' ?_;refine Runs.step (.bytes { s with last:=last,place:=1,out:=s.out++l,left:=0,p:=q+32+8*l.length } rfl rfl i) (by simp) N
 ·subst hp;obtain⟨s',K,L⟩:=Kl m o l { s with last:=last,left:=l.length,place:=1,p:=q+32 } I rfl rfl x g D F;exact⟨s',Runs.step (.stored s q l.length last z t J (by omega) a1 a2 x) (by omega) K,L⟩
def Taken (w:aH)(base:Nat)(v:aK)(ys:aD):Prop:=w.ownsRow base 5 1 v ys.length (jR ys)
def Taken.step {S:Nat->Prop}(h:Taken w base v ys)(hs:Step S w w')(hn:∀k,base<=k->¬S k):Taken w' base v ys:=bX h fun k hk=>hs.block k (h.lt k hk).2 (hn k (h.lt k hk).1)
def Taken.mono {a:Nat}(h:Taken w base v ys)(b:a<=base):Taken w a v ys:=bH h b
def Taken.slice (h:Taken w base v ys):∃a c,v= .slice a ys.length c:=by
 obtain⟨_,⟨b,hn⟩|⟨g,cap,_,b,_⟩⟩:=h
 ·exact⟨none,0,by rw[b,hn]⟩
 ·exact⟨_,_,b⟩
def xI (out:aD):aD:=if 65536<out.length then out.drop (out.length-32768)else out
def sG.take {st:iH}{taken:Nat}(h:sG st taken out)(v:aK):sG { st with v:=v,out:=xI st.out,fresh:=0 } out.length out:=by
 obtain⟨old,a,b⟩:=h.old;refine⟨?_,by simp,iZ _⟩;unfold xI;dsimp only;split
 ·rename_i c;refine⟨old++st.out.take (st.out.length-32768),by rw[dB,pJ];exact a, .inr (by rw[dX];omega)⟩
 ·exact⟨old,a,b⟩
def QJ {st:iH}{taken:Nat}(h:sG st taken out):st.out.drop (st.out.length-st.fresh)=out.drop taken:=by
 obtain⟨old,a,c⟩:=h.old;have g:=h.fresh;have i:=h.kept;have j:out.length=old.length+st.out.length:=by rw[a,aN]
 have b:taken=old.length+(st.out.length-st.fresh):=by omega
 rw[b,a,GK];simp
structure V6 (d f base g off cap z e:Nat)(B:aD)(out:aD)(q:Nat)(v:aK)(S:Nat->Prop)(w w':aH):Prop where
 ex:∃st q',sG st out.length out/\(e=0->q'=q/\q<=8*B.length)/\mF w' d f base g off cap z B st q'/\Step (fun k=>S k\/k=d\/k=f\/v.ownBlock=some k) w w'/\(∀k,st.v.ownBlock=some k->v.ownBlock=some k\/w.heap.size<=k)
def DK {k:Nat}{xs:aD}(h:nI w k off xs)(r:Nat):nI w k (off+r) (xs.drop r):=fun i hi=>by
 rw[dX]at hi
 have a:=h (r+i) (by omega)
 rw[kM,iV]
 exact a
def a90 (w:aH)(a:Option Addr)(n c g b:Nat):(binOp .eql 31 (.slice a n c) (.slice none g b)).run prog w= .ok (.bool a.isNone) w:=Lib.run_eql_slice_nil w _ _ a n c g b underlying31
def KE (w:aH):Calls prog 110 #[.slice none 0 0] w fun e w'=>e= .returned (.slice none 0 0)/\w'=w:=by have a:=a90;go_enter func110,ntmps110;go_wp2;go_ret;exact⟨rfl,rfl⟩
def vC (k off n cap:Nat)(ys:aD)(w:aH)(s:nI w k off ys)(hn:ys.length=n)(y:n<=4000000):Calls prog 110 #[.slice (some (U k off)) n cap] w fun e w'=>∃v,e= .returned v/\Taken w' w.heap.size v ys/\O w w':=by
 obtain⟨t,hi,i,l,m⟩:=eD info5;have g:(jR ys).length=n*1:=by simp[hn]
 have b:=fun o=>(s.step ((aU (fun _=>False) w).alloc o) (fun x=>x)).news;have z:=a90;go_enter func110,ntmps110;go_wp2_with (at_builtin;refine wpList_append_own _ rfl _ _ 31 rfl w.heap.size 5 t (.int .u8 0) 1 1 underlying31 hi i l m rfl (by decide) _ _ _ rfl (World.ownsRow_made w #[] 0 (aS _) (iZ _) rfl) (U k off) n cap (jR ys) rfl g (b _) (yK ys) (by unfold maxLen;omega) (by omega) (by simp) ?_);intro u w1 c a q;go_wp2;go_ret;refine⟨u,rfl,?_,((aU (fun _=>False) w).alloc _).grown a (fun j r=> .inr ?_)⟩
 ·unfold Taken;rw[hn];exact c
 ·simp only[Value.ownBlock,fH]at r;omega
def Apart (v v':aK):Prop:=∀j,v.ownBlock=some j->v'.ownBlock≠some j
def oP (st:iH)(v:aK):iH:={ st with v:=v,out:=xI st.out,fresh:=0 }
def Es {w1 w2 w4:aH}{st:iH}{a:aK}(h:Dec w d f base st)(i:O w w1)(b:Step (·=d) w1 w2)(c:O w2 w4)(m:Dec w4 d f base { st with fresh:=0 })(hn:st.out.length=n)(o:65536<n)(s:Taken w1 w.heap.size v ys)(g:Taken w4 w2.heap.size a (st.out.drop (n-32768))):Taken (w4.setCell (U d 1) a) w.heap.size v ys/\Dec (w4.setCell (U d 1) a) d f base (oP st a)/\dH d w st.v (w4.setCell (U d 1) a) a/\Apart v a:=by
 have D:=h.ag2;have C:=h.af8;have z:=i.size;have A:=b.size;have l:Step (·=d) w4 (w4.setCell (U d 1) a):=(aU (·=d) w4).setCell (p:=(U d 1)) rfl _;have t:xI st.out=st.out.drop (n-32768):=by unfold xI;rw[hn,aA o]
 refine⟨((s.step b (fun k hk x=>by omega)).step c (fun _ _ x=>x)).step l (fun k hk x=>by omega),⟨?_,?_,h.ag2,h.as5,h.ne,?_⟩,⟨?_,?_⟩,fun j y q=>by have:=(s.lt j y).2;have:=(g.lt j q).1;omega⟩
 ·have r:=aV m.blk 1 a;have u:(iH.cells f { st with fresh:=0 }).set! 1 a=iH.cells f (oP st a):=by simp[iH.cells,oP]
  rw[u]at r;exact r
 ·show World.ownsRow _ base _ 1 a (xI st.out).length (jR (xI st.out));rw[t];exact bH (g.step l (fun k hk x=>by omega)) (by omega)
 ·have:=c.size;simp[World.setCell];omega
 ·exact(((i.mono (fun _ x=>x.elim)).trans (b.mono (fun _ x=> .inl x))).trans (c.mono (fun _ x=>x.elim))).setCell (p:=(U d 1)) (.inl rfl) _
 ·intro k hk;have:=(g.lt k hk).1;exact .inr (by omega)
def Uj (d f base g n l fr:Nat)(st:iH)(w:aH)(h:Dec w d f base st)(hk:st.out.length<=1048576)(hv:st.v= .slice (some (U g 0)) n l)(hn:st.out.length=n)(ag:st.fresh=fr)(hf:fr<=n)(bc:n<=l)(bf:l<=9223372036854775807)(hl:nI w g 0 st.out):Calls prog 118 #[.pointer (some (U d 1))] w fun e w'=>∃v v',e= .returned v/\Taken w' w.heap.size v (st.out.drop (n-fr))/\Dec w' d f base (oP st v')/\dH d w st.v w' v'/\Apart v v':=by
 obtain⟨_,c1,_,_,_,_,_,_,_,_,_,c2⟩:=h.cell;rw[hv]at c1;rw[ag]at c2;have ax:=hk;rw[hn]at ax;have F:(st.out.drop (n-fr)).length=fr:=by rw[dX,hn];omega
 have m:=DK hl (n-fr);rw[dS]at m;obtain⟨lo,L⟩:=aP (n-fr);rw[<-L]at F m|-
 obtain⟨ys,am⟩:=aP (st.out.drop lo);rw[<-am]at F m|-
 have aj:IntKind.i64.wrap ((n:Int)-(fr:Int))=(lo:Int):=by rw[dK];omega
 have ap:(0:Int)<=(lo:Int):=by omega
 have aq:(lo:Int)<=(n:Int):=by omega
 have au:n-lo=fr:=by omega
 have ar:(n:Int)<=(l:Int):=by omega
 have aw:(lo:Int)<=(l:Int):=by omega
 have an:=hide (show∀c,Calls prog 110 #[.slice (some (U g lo)) fr c] w.drew fun e w'=>∃v,e= .returned v/\Taken w' w.heap.size v ys/\O w.drew w' from fun c=>vC g lo fr c ys w.drew (m.step ((aU (fun _=>False) w).drew) (fun x=>x)) F (by omega));have aa:=hide (show fr=0->∀c,Calls prog 110 #[.slice (some (U g 0)) 0 c] w.drew fun e w'=>∃v,e= .returned v/\Taken w' w.heap.size v ys/\O w.drew w' from fun h0 c=>vC g 0 0 c ys w.drew (fun i hi=>by omega) (by omega) (by omega));have N:=hide h;have HV:=hide hv;have G:=hide hn;have HL:=hide hl;have ai:=hk;have P:=hide L;clear hl m h hv hn am F hk ag L;have S:n<=65536\/65536<n:=by omega
 have I:=hide (show∀w1 v,Taken w1 w.heap.size v ys->O w w1->n<=65536->Taken (w1.setCell (U d 2) (V 0)) w.heap.size v ys/\Dec (w1.setCell (U d 2) (V 0)) d f base (oP st st.v)/\dH d w st.v (w1.setCell (U d 2) (V 0)) st.v/\Apart v st.v from fun w1 v ht hs R=>by
  have hd:=N.o.ag2;have hb:=N.o.af8;have e1:xI st.out=st.out:=by unfold xI;rw[G.o,aB (by omega)]
  refine⟨ht.step ((aU (·=d) w1).setCell (p:=(U d 2)) rfl _) (fun k hk x=>by omega),?_,⟨(hs.mono (fun _ x=>x.elim)).setCell (p:=(U d 2)) (.inl rfl) _,fun _ x=> .inl x⟩,fun j hj av=>by have:=(ht.lt j hj).1;have:=(N.o.own.lt j av).2;omega⟩;unfold oP;rw[e1];exact(N.o.step0 hs).set (st':={ st with fresh:=0 }) 2 (V 0) (by simp[iH.cells]) rfl rfl)
 have bg:=N.o.ag2;have be:=N.o.af8;by_cases af:l=lo
 ·have L:=P.o;have ah:fr=0:=by omega
  have ay:n=l:=by omega
  clear L P;subst ah;subst af;subst ay;have c2:w.cell? (U d 2)=some (V 0):=c2;have bj:IntKind.i64.wrap (n:Int)=(n:Int):=by rw[dK];omega
  have bh:(0:Int)<=(n:Int):=by omega
  have ab:=hide (aa.o rfl);clear aj au aq aw ar ap aa;go_enter func118,ntmps118;go_wp2_with fail
  go_region_held3 (fun w'=>w'.cell? (U d 1)=some (.slice (some (U g 0)) n n)/\w'.cell? (U d 2)=some (V 0)) (go_keep)
   (first|(go_at_call 110;apply(ab.o _).mono;rintro e w1 ⟨v,rfl,Y,D⟩;have k1:=D.cell (p:=(U d 1)) c1 (fun x=>x);have k2:=D.cell (p:=(U d 2)) c2 (fun x=>x)))
  have r:O w w1:=(aU (fun _=>False) w).drew.trans D;have h1:=N.o.step0 r;have az:=h1.free 2;have ak:=r.size;have H1:=hide h1;have K:=hide Y;have J:=hide r;rcases S with R|W
  ·have T:¬((65536:Int)<(n:Int)):=(by omega);go_wp2_with fail;go_ret;have h9:=I.o w1 v K.o J.o R;exact⟨v,rfl,h9.1,st.v,h9.2⟩
  ·have T:(65536:Int)<(n:Int):=(by omega);go_wp2_with fail;obtain⟨w2,t⟩:=aP (w1.setCell (U d 2) (V 0));have H:Dec w2 d f base { st with fresh:=0 }:=(by rw[t];exact H1.o.set (st':={ st with fresh:=0 }) 2 (V 0) (by simp[iH.cells]) rfl rfl);have s:Step (·=d) w1 w2:=(by rw[t];exact(aU (·=d) w1).setCell (p:=(U d 2)) rfl _);rw[<-t];have al:=s.size;apply(FI d f base { st with fresh:=0 } w2 H ai).mono;rintro e w3 ⟨rfl,a,rfl,A⟩;obtain⟨g',ha,b⟩:=A (by show 0<st.out.length;rw[G.o];omega);replace b:nI w3 g' 0 st.out:=b;subst ha;have u:min ({ st with fresh:=0 }:iH).out.length 32768=32768:=(by show min st.out.length 32768=32768;rw[G.o];omega);have y:({ st with fresh:=0 }:iH).out.length-32768=n-32768:=(by show st.out.length-32768=n-32768;rw[G.o]);rw[u,y];have m:=DK b (n-32768);rw[dS]at m;have Q:=vC g' (n-32768) 32768 32768 (st.out.drop (n-32768)) w3 m (by rw[dX,G.o];omega) (by omega);have ac:=hide Q;have ao:=hide H;have ae:=hide s;clear Q m b A u y H s t;go_wp2_with fail;apply ac.o.mono;rintro e w4 ⟨v',rfl,z,M⟩;have C:=ao.o.step0 M;obtain⟨a4,c4,Z⟩:=z.slice;obtain⟨_,q1,_⟩:=C.cell;have bb:=C.free 1;have q:=hide (Es N.o J.o ae.o M C G.o W K.o z);rw[Z]at q|-
   have ba:w4.cell? (U d 1)=some (.slice (some (U g 0)) n n):=q1.trans (by rw[<-HV.o]);have X:(st.out.drop (n-32768)).length=32768:=(by rw[dX,G.o];omega);rw[X]at q|-
   go_wp2_with fail;go_ret;exact⟨v,_,rfl,q.o⟩
 ·have ad:=hide P;clear P ad;go_enter func118,ntmps118;go_wp2_with fail
  go_region_held3 (fun w'=>w'.cell? (U d 1)=some (.slice (some (U g 0)) n l)/\w'.cell? (U d 2)=some (V fr)) (go_keep)
   (first|(go_at_call 110;apply(an.o _).mono;rintro e w1 ⟨v,rfl,Y,D⟩;have k1:=D.cell (p:=(U d 1)) c1 (fun x=>x);have k2:=D.cell (p:=(U d 2)) c2 (fun x=>x)))
  have r:O w w1:=(aU (fun _=>False) w).drew.trans D;have h1:=N.o.step0 r;have az:=h1.free 2;have ak:=r.size;have H1:=hide h1;have K:=hide Y;have J:=hide r;rcases S with R|W
  ·have T:¬((65536:Int)<(n:Int)):=(by omega);go_wp2_with fail;go_ret;have h9:=I.o w1 v K.o J.o R;exact⟨v,rfl,h9.1,st.v,h9.2⟩
  ·have T:(65536:Int)<(n:Int):=(by omega);go_wp2_with fail;obtain⟨w2,t⟩:=aP (w1.setCell (U d 2) (V 0));have H:Dec w2 d f base { st with fresh:=0 }:=(by rw[t];exact H1.o.set (st':={ st with fresh:=0 }) 2 (V 0) (by simp[iH.cells]) rfl rfl);have s:Step (·=d) w1 w2:=(by rw[t];exact(aU (·=d) w1).setCell (p:=(U d 2)) rfl _);rw[<-t];have al:=s.size;apply(FI d f base { st with fresh:=0 } w2 H ai).mono;rintro e w3 ⟨rfl,a,rfl,A⟩;obtain⟨g',ha,b⟩:=A (by show 0<st.out.length;rw[G.o];omega);replace b:nI w3 g' 0 st.out:=b;subst ha;have u:min ({ st with fresh:=0 }:iH).out.length 32768=32768:=(by show min st.out.length 32768=32768;rw[G.o];omega);have y:({ st with fresh:=0 }:iH).out.length-32768=n-32768:=(by show st.out.length-32768=n-32768;rw[G.o]);rw[u,y];have m:=DK b (n-32768);rw[dS]at m;have Q:=vC g' (n-32768) 32768 32768 (st.out.drop (n-32768)) w3 m (by rw[dX,G.o];omega) (by omega);clear m b A u y t;go_wp2_with fail;apply Q.mono;rintro e w4 ⟨v',rfl,z,M⟩;have C:=H.step0 M;obtain⟨a4,c4,Z⟩:=z.slice;obtain⟨_,q1,_⟩:=C.cell;have bb:=C.free 1;have q:=hide (Es N.o J.o s M C G.o W K.o z);rw[Z]at q|-
   have ba:w4.cell? (U d 1)=some (.slice (some (U g 0)) n l):=q1.trans (by rw[<-HV.o]);have X:(st.out.drop (n-32768)).length=32768:=(by rw[dX,G.o];omega);rw[X]at q|-
   go_wp2_with fail;go_ret;exact⟨v,_,rfl,q.o⟩
def Dv (d f base:Nat)(st:iH)(w:aH)(h:Dec w d f base st)(hk:st.out.length<=1048576)(H:st.fresh<=st.out.length):Calls prog 118 #[.pointer (some (U d 1))] w fun e w'=>∃v y,e= .returned v/\Taken w' w.heap.size v (st.out.drop (st.out.length-st.fresh))/\Dec w' d f base (oP st y)/\dH d w st.v w' y/\Apart v y:=by
 have c:=h.own;obtain⟨M,⟨m,hn⟩|⟨g,l,D,m,L,hh,u,s,G,J⟩⟩:=c
 ·obtain⟨_,c1,_,_,_,_,_,_,_,_,_,c2⟩:=h.cell;have f2:=h.free 2;have t:st.fresh=0:=by omega
  rw[m]at c1;rw[t]at c2;have A:st.out=[]:=kP hn;have a:=hide (show∀k,Dec ((w.setCell (U d 2) (V 0)).drewN k) d f base (oP st st.v)/\dH d w st.v ((w.setCell (U d 2) (V 0)).drewN k) st.v from fun k=>by
   refine⟨?_,⟨((aU _ w).setCell (p:=(U d 2)) (.inl rfl) _).drewN k,fun _ x=> .inl x⟩⟩;have F:xI st.out=st.out:=(by rw[A];rfl);unfold oP;rw[F];exact(h.set (st':={ st with fresh:=0 }) 2 (V 0) (by simp[iH.cells]) rfl rfl).other rfl (fun _ _=>rfl) (aS _))
  rw[A];have r:=KE w.drew;have C:w.cell? (U d 2)=some (V 0):=c2;have K:IntKind.i64.wrap 0=0:=rfl;go_enter func118,ntmps118;go_wp2_with fail
  go_region_held3 (fun w'=>w'.cell? (U d 1)=some (.slice none 0 0)/\w'.cell? (U d 2)=some (V 0)) (go_keep)
   (first|(go_at_call 110;apply r.mono;rintro e w1 ⟨rfl,rfl⟩))
  go_wp2_with fail;go_ret;refine⟨_,_,rfl,?_,(a.o 1).1,(a.o 1).2,fun j I=>by simp[Value.ownBlock]at I⟩;rw[List.drop_nil];exact jJ _ _ _ _
 ·have b:nI w g 0 st.out:=fun i hi=>by
   have z:=h.own;rw[m]at z;have q:=z.cellAt i (by omega);rw[dS,q];exact qM _ _ hi
  exact Uj d f base g st.out.length l st.fresh st w h hk m rfl rfl H u (by unfold maxLen at s;omega) b
def Dn (d f base g off cap z n e:Nat)(B:aD)(s:GS)(out:aD)(q:Nat)(v:aK)(w:aH)(u:dJ w d f base g off cap z B s v)(F:eZ B n s e out q):Calls prog 74 #[E d] w fun r w'=>∃t,r= .returned (.tuple #[t,V e])/\V6 d f base g off cap z e B out q v (fun _=>False) w w'/\Taken w' w.heap.size t (out.drop s.taken):=by
 have c:=Xk d f base g off cap z n e B s out q v w u F;have y:=F.most u.room;have K:=u.most;go_enter func74,ntmps74;go_wp2_with fail;apply c.mono;rintro r w1 ⟨rfl,st,q',l,H,C,D⟩;have I:=l.le;have j:=Dv d f base st w1 C.dec (by omega) l.kept;rw[QJ l]at j;have b:=hide (show∀w' a,Dec w' d f base (oP st a)->dH d w1 st.v w' a->V6 d f base g off cap z e B out q v (fun _=>False) w w' from fun w' a x m=>by
  have i:=D.trans (fC.xH (f:=f) m);exact⟨oP st a,q',sG.take l a,H,C.put x m,i.step.mono (fun k hk=> .inr hk),i.own⟩)
 have A:=D.step.size;go_wp2_with fail;apply j.mono;rintro r w2 ⟨t,a,rfl,J,x,m,_⟩;have G:=hide (b.o w2 a x m);have HB:=hide (J.mono A);go_wp2_with fail;go_ret2;exact⟨t,rfl,G.o,HB.o⟩
def O6 (f most:Nat)(w:aH):Calls prog 49 #[E f,V most] w fun e w'=>e= .returned (E w.heap.size)/\w'=w.alloc (.cells #[E f, .slice none 0 0,V 0,V most,V 0, .bool false,V 0, .map none,V 0, .map none,V 0, .pointer none] 128):=by go_enter func49,ntmps49;go_wp2;go_ret;exact⟨rfl,rfl⟩
def asked (most:Int):Nat:=if most<0 then 0 else if 1048576<most then 1048576 else most.toNat
def vW (most:Int):asked most<=1048576:=by unfold asked;split<;>(try split)<;>omega
def Ac (most:Int)(w:aH):Calls prog 37 #[V most] w fun e w'=>e= .returned (V (asked most:Nat))/\w'=w:=by
 by_cases b:most<0
 ·have a:asked most=0:=by unfold asked;rw[aA b]
  rw[a];have c:max most 0=0:=by omega
  go_enter func37,ntmps37;go_wp2_with fail;go_ret;exact⟨rfl,rfl⟩
 ·by_cases g:1048576<most;focus
   have a:asked most=1048576:=(by unfold asked;rw[aB b,aA g]);rw[a];have c:max most 0=most:=(by omega);have i:min most 1048576=1048576:=by omega
  rotate_left;focus
   have a:((asked most:Nat):Int)=most:=(by unfold asked;rw[aB b,aB g];omega);have c:max most 0=most:=(by omega);have i:min most 1048576=most:=(by omega);rw[a]
  all_goals
   go_enter func37,ntmps37;go_wp2_with fail;go_ret;exact⟨rfl,rfl⟩
def ao6 (f most:Nat)(w:aH):Calls prog 36 #[V 0,E f,V most] w fun e w'=>e= .returned (.tuple #[.pointer (some ⟨w.heap.size+1,0,none⟩),V 0])/\w'=((w.alloc (.cells #[E f, .slice none 0 0,V 0,V most,V 0, .bool false,V 0, .map none,V 0, .map none,V 0, .pointer none] 128)).alloc (.cells #[E f,E w.heap.size, .slice (some ⟨w.heap.size+1+1,0,none⟩) 1 1, .slice none 0 0, .string ⟨#[]⟩] 96)).alloc (.cells #[.func (.func 50) #[.pointer (some ⟨w.heap.size+1,0,none⟩)] #[]] 138):=by go_enter func36,ntmps36;go_wp2_with fail;apply(O6 f most _).mono;rintro e w1 ⟨rfl,b⟩;have a:=ar9;go_wp2_with fail;go_ret2;exact⟨rfl,rfl⟩
def V6.widen {g cap z:Nat}{q:Nat}{S S':Nat->Prop}(h:V6 d f base g off cap z e B out q v S w w')(hs:∀k,S k->S' k):V6 d f base g off cap z e B out q v S' w w':=by obtain⟨st,q',a,b,c,i,j⟩:=h.ex;exact⟨st,q',a,b,c,i.mono (fun k hk=>hk.imp (hs k) id),j⟩
def V6.set {g cap z D:Nat}{q:Nat}(h:V6 d f base g off cap z e B out q v (·=D) w w')(b:tK d f v D)(s:D<base)(j:g≠D)(i n:Nat)(u:aK):V6 d f base g off cap z e B out q v (·=D) w ((w'.setCell (U D i) u).drewN n):=by
 obtain⟨st,q',l,m,a,o,r⟩:=h.ex;have hs:Step (·=D) w' ((w'.setCell (U D i) u).drewN n):=((aU (·=D) w').setCell (p:=(U D i)) rfl u).drewN n;have c:st.v.ownBlock≠some D:=fun t=>by have:=(a.dec.own.lt D t).1;omega
 refine⟨st,q',l,m,⟨?_,hs.at_ a.feed (fun x=>b.f x.symm),a.src.step hs j,a.af9,nM a.glt hs.size⟩,?_,r⟩
 ·exact a.dec.other (hs.block d (aO a.dec.blk) (fun x=>b.d x.symm)) (fun k hk=>hs.block k (a.dec.own.lt k hk).2 (fun x=>c (x▸hk))) hs.size
 ·exact o.trans (hs.mono (fun k hk=> .inl hk))
def rQ (most:Nat):GS:={ out:=[],most:=most,place:=0,last:=false,left:=0,ls:=[],ld:=[],p:=0 }
def Ud (D:Nat)(x:bY)(w:aH)(a:w.cell? (U D 4)=some (.string x)):Calls prog 54 #[E D] w fun e w'=>e= .returned (.string x)/\w'=w:=by go_enter func54,ntmps54;go_wp2_with fail;go_ret;exact⟨rfl,rfl⟩
def CO (z e q:Nat):Nat:=if e=0 then z+(q+7)/8 else 0
def init (most:Nat):PS:={ out:=[],most:=most,place:=0,last:=false,left:=0,tab:=fun _=>none,longest:=0,p:=0 }
def rM (B:aD):List Bool:=(List.range (8*B.length)).map fun p=>decide (bK B p=1)
def rJ (B:aD):(rM B).length=8*B.length:=by simp[rM]
def FC (B:aD)(h:∀i:Nat,B[i]?.getD 0<256):bQ (rM B) B:=by
 refine⟨h,fun p=> ?_⟩;by_cases hp:p<8*B.length
 ·unfold rM;rw[kE,zI hp];have:=kQ B p;have a:bK B p=0\/bK B p=1:=by omega
  rcases a with e|e<;>simp[e]
 ·rw[fZ (by rw[rJ];omega)];unfold bK;rw[fZ (by omega)];simp
end Go.Proofs.YtbpahojchgpdnaaGreatDoor
