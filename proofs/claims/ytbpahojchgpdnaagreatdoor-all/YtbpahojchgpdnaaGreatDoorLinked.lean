import Derived.Lib.Slices
import Derived.Test.YtbpahojchgpdnaaGreatDoorSteps
set_option maxRecDepth 20000
set_option maxHeartbeats 4000000
set_option linter.all false
namespace Go.Proofs.YtbpahojchgpdnaaGreatDoor
open Go.RowKit Go.dM Go.Maps Go.Proofs.Tryz
variable {base d e f n off p:Nat} {B out ys:aD} {w w':aH} {v:aK}
def VD {a:List Bool}{x j:Nat}(h:bC a p (nT x n))(b:j<=n):bC a p (rH x n j):=fun i hi=>by
 rw[xE]at hi
 have:=h i (by rw[uH];omega)
 rw[this]
 simp[nT,rH,hi,show i<n by omega]
def ag9 {L:aD}{k:List Bool}{s x:Nat}(g:bQ k B)(o:∀i:Nat,L[i]?.getD 0<=15)(hs:s<L.length)(hn:L[s]?.getD 0=n)(r:1<=n)(hk:dM.keyOf L s=2^n+x)(l:x<2^n)(q:fF L=true)(m:bC k p (nT x n))(hp:p+n<=8*B.length):vS (aI L).longest (aI L).tab B p (p+n) s:=by
 have b:=o s;have e:p+n-p=n:=by omega
 refine⟨by omega,?_,hp,?_,?_⟩
 ·rw[e,<-hn];exact SX L 15 s hs (by omega) b
 ·rw[e,Bf g p x n n l (aS _) m,uL,Nat.pow_zero,Nat.div_one,<-hk];exact found L s hs (by omega) b
 ·intro j a c;rw[e]at c;rw[Bf g p x n j l (by omega) (VD m (by omega)),<-hk,<-hn];exact Dx L (room L o q) s j hs (by omega) b a (by omega)
def Runs (B:aD)(s:PS)(e:Nat)(s':PS):Prop:=∃n,Oc B n s e s'
def Runs.step {s a s':PS}(h:AU B s a)(b:s.place≠3)(k:Runs B a e s'):Runs B s e s':=by obtain⟨n,hn⟩:=k;exact⟨n+1, .step n s a s' e h b hn⟩
def Runs.much {s s':PS}(h:Ag B s s')(a:s.place≠3):Runs B s 11 s':=⟨1, .much s s' h a⟩
def uY {a:List Bool}{l:List Bool}(h:bC a p l)(b:l≠[])(g:a.length<=8*B.length):p+l.length<=8*B.length:=by
 have c:0<l.length:=by cases l<;>simp_all
 have:=h (l.length-1) (by omega);rw[bV (show l.length-1<l.length by omega)]at this;have i:=(BD.1 this).1;omega
structure az9 (B:aD)(p q:Nat)(l:aD)(last:Bool):Prop where
 fits:∀s:PS,s.place=0->s.p=p->s.out.length+l.length<=s.most->∃s1:PS,s1.place=(if last then 3 else 0)/\s1.out=s.out++l/\s1.most=s.most/\s1.p=(if last then(q+7)/8*8 else q)/\∀e s',Runs B s1 e s'->Runs B s e s'
 much:∀s:PS,s.place=0->s.p=p->s.out.length<=s.most->s.most<s.out.length+l.length->∃s':PS,Runs B s 11 s'/\s'.out=s.out++l.take (s.most-s.out.length)
def KW {c:List Bool}(i:bQ c B)(k:c.length<=8*B.length)(p kind:Nat)(last:Bool)(hk:kind<4)(h:bC c p (bS last kind)):KM B p last kind:=by
 have j:bC c p [last]:=bC.left (b:=numBits kind 2) h;have l:bC c (p+1) (numBits kind 2):=bC.right (a:=[last]) h;have g:=uY h (by simp[bS]) k;rw[aT]at g;refine⟨g,?_,?_⟩
 ·have:=j 0 (by simp);rw[lN]at this;rw[i.bit,this];rfl
 ·rw[mR i (p+1) kind 2 l];exact kC (by omega)
def Qy {i:List Bool}(q:bQ i B)(z:i.length<=8*B.length)(l:aD):∀(s:PS),(∀c∈l,c<256)->s.place=1->s.left=l.length->l.length<=65535->bC i s.p (dA l)->s.out.length+l.length<=s.most->∀e s',Runs B { s with out:=s.out++l,left:=0,p:=s.p+8*l.length } e s'->Runs B s e s':=by
 induction l with
 |nil=>
  intro s _ _ o _ _ _ e s' h;have:({ s with out:=s.out++[],left:=0,p:=s.p+8*([]:aD).length }:PS)=s:=by cases s;simp_all
  rw[this]at h;exact h
 |cons c l ih=>
  intro s m b o j r y e s' h;have a:bC i s.p (numBits c 8++dA l):=by simpa[dA]using r
  have g:=uY a.left (by simp[numBits]) z;rw[aM]at g;have hn:aG B s.p 8=c:=by rw[mR q s.p c 8 a.left];exact kC (m c (by simp))
  have k:=a.right;rw[aM]at k;simp only[iN]at o y j;refine Runs.step (.byte s b (by omega) (by omega) g (by omega)) (by omega) ?_;rw[hn];refine ih { s with out:=s.out++[c],left:=s.left-1,p:=s.p+8 } (fun x u=>m x (by simp[u])) b (by show s.left-1=_;omega) (by omega) k (by show(s.out++[c]).length+l.length<=s.most;simp;omega) e s' ?_;have t:(s.out++[c])++l=s.out++c::l:=by simp
  show Runs B { s with out:=(s.out++[c])++l,left:=0,p:=s.p+8+8*l.length } e s';rw[t,show s.p+8+8*l.length=s.p+8*(c::l).length by simp;omega];exact h
def Kl {k:List Bool}(u:bQ k B)(H:k.length<=8*B.length)(l:aD):∀(s:PS),(∀c∈l,c<256)->s.place=1->s.left=l.length->l.length<=65535->bC k s.p (dA l)->s.out.length<=s.most->s.most<s.out.length+l.length->∃s',Runs B s 11 s'/\s'.out=s.out++l.take (s.most-s.out.length):=by
 induction l with
 |nil=>intro s _ _ _ _ _ y o;simp at o;omega
 |cons c l ih=>
  intro s t a G q z y o;have b:bC k s.p (numBits c 8++dA l):=by simpa[dA]using z
  have g:=uY b.left (by simp[numBits]) H;rw[aM]at g;have hn:aG B s.p 8=c:=by rw[mR u s.p c 8 b.left];exact kC (t c (by simp))
  have r:=b.right;rw[aM]at r;simp only[iN]at G o q;by_cases j:s.out.length=s.most
  ·exact⟨_,Runs.much (.byte s a (by omega) (by omega) g j) (by omega),by simp[j]⟩
  ·have i:=AU.byte (B:=B) s a (by omega) (by omega) g (by omega);rw[hn]at i;obtain⟨s',A,C⟩:=ih { s with out:=s.out++[c],left:=s.left-1,p:=s.p+8 } (fun x D=>t x (by simp[D])) a (by show s.left-1=_;omega) (by omega) r (by show(s.out++[c]).length<=s.most;simp;omega) (by show s.most<(s.out++[c]).length+l.length;simp;omega);refine⟨s',Runs.step i (by omega) A,?_⟩;rw[C];obtain⟨m,F⟩:∃m,s.most-s.out.length=m+1:=⟨s.most-s.out.length-1,by omega⟩
   show(s.out++[c])++l.take (s.most-(s.out++[c]).length)=_;rw[F,aN,iN,pE,show s.most-(s.out.length+(0+1))=m by omega];simp
def UW {z:List Bool}(m:bQ z B)(t:z.length<=8*B.length)(p:Nat)(l:aD)(last:Bool)(J:∀c∈l,c<256)(x:l.length<=65535)(h:bC z p (bF p l last)):az9 B p (p+(bF p l last).length) l last:=by
 obtain⟨q,G⟩:=aP ((p+3+7)/8*8);have I:(dW (p+3)).length=q-(p+3):=by simp[dW];omega
 have o:(bF p l last).length=q-p+32+8*l.length:=by
  unfold bF;simp only[aN,aT,aM,iA,I];omega
 have g:=h.right (a:=bS last 0++dW (p+3)++numBits l.length 16++numBits (65535-l.length) 16) (b:=dA l);have C:=bC.left (a:=bS last 0++dW (p+3)++numBits l.length 16++numBits (65535-l.length) 16) (b:=dA l) h;have k:=bC.right (a:=bS last 0++dW (p+3)++numBits l.length 16) (b:=numBits (65535-l.length) 16) C;have H:=bC.left (a:=bS last 0++dW (p+3)++numBits l.length 16) (b:=numBits (65535-l.length) 16) C;have j:=bC.right (a:=bS last 0++dW (p+3)) (b:=numBits l.length 16) H;have u:=KW m t p 0 last (by omega) (bC.left (a:=bS last 0) (b:=dW (p+3)) (bC.left (a:=bS last 0++dW (p+3)) (b:=numBits l.length 16) H));have F:=uY C (by simp[bS]) t;simp only[aN,aT,aM,I]at g k j F;rw[show p+(3+(q-(p+3)))=q by omega]at j;rw[show p+(3+(q-(p+3))+16)=q+16 by omega]at k;rw[show p+(3+(q-(p+3))+16+16)=q+32 by omega]at g;have a1:aG B q 16=l.length:=by rw[mR m q _ 16 j];exact kC (by omega)
 have a2:aG B (q+16) 16=65535-l.length:=by rw[mR m (q+16) _ 16 k];exact kC (by omega)
 have r:p+(bF p l last).length=q+32+8*l.length:=by rw[o];omega
 have i:=uY h (by simp[bF,bS]) t;rw[r]at i|-
 refine⟨fun s y hp M=> ?_,fun s y hp A D=> ?_⟩
 ·subst hp;refine⟨PS.ended { s with last:=last,place:=1,out:=s.out++l,left:=0,p:=q+32+8*l.length } (q+32+8*l.length),rfl,rfl,rfl,rfl,fun e s' L=> ?_⟩;refine Runs.step (.stored s q l.length last y u G (by omega) a1 a2 x) (by omega) ?_;refine Qy m t l { s with last:=last,left:=l.length,place:=1,p:=q+32 } J rfl rfl x g M e s' ?_;refine Runs.step (.bytes { s with last:=last,place:=1,out:=s.out++l,left:=0,p:=q+32+8*l.length } rfl rfl i) (by simp) L
 ·subst hp;obtain⟨s',N,K⟩:=Kl m t l { s with last:=last,left:=l.length,place:=1,p:=q+32 } J rfl rfl x g A D;exact⟨s',Runs.step (.stored s q l.length last y u G (by omega) a1 a2 x) (by omega) N,K⟩
def Taken (w:aH)(base:Nat)(v:aK)(ys:aD):Prop:=w.ownsRow base 5 1 v ys.length (jR ys)
def Taken.step {S:Nat->Prop}(h:Taken w base v ys)(hs:Step S w w')(hn:∀k,base<=k->¬S k):Taken w' base v ys:=bX h fun k hk=>hs.block k (h.lt k hk).2 (hn k (h.lt k hk).1)
def Taken.mono {a:Nat}(h:Taken w base v ys)(b:a<=base):Taken w a v ys:=bH h b
def Taken.slice (h:Taken w base v ys):∃a c,v= .slice a ys.length c:=by
 obtain⟨_,⟨b,hn⟩|⟨g,cap,_,b,_⟩⟩:=h
 ·exact⟨none,0,by rw[b,hn]⟩
 ·exact⟨_,_,b⟩
def xI (out:aD):aD:=if 65536<out.length then out.drop (out.length-32768)else out
def sG.take {st:iH}{taken:Nat}(h:sG st taken out)(v:aK):sG { st with v:=v,out:=xI st.out,fresh:=0 } out.length out:=by
 obtain⟨old,a,b⟩:=h.old;refine⟨?_,by simp,iZ _⟩;unfold xI;dsimp only;split
 ·rename_i c;refine⟨old++st.out.take (st.out.length-32768),by rw[dB,pJ];exact a, .inr (by rw[dX];omega)⟩
 ·exact⟨old,a,b⟩
def QJ {st:iH}{taken:Nat}(h:sG st taken out):st.out.drop (st.out.length-st.fresh)=out.drop taken:=by
 obtain⟨old,a,j⟩:=h.old;have c:=h.fresh;have g:=h.kept;have i:out.length=old.length+st.out.length:=by rw[a,aN]
 have b:taken=old.length+(st.out.length-st.fresh):=by omega
 rw[b,a,GK];simp
structure V6 (d f base g off cap z e:Nat)(B:aD)(out:aD)(q:Nat)(v:aK)(S:Nat->Prop)(w w':aH):Prop where
 ex:∃st q',sG st out.length out/\(e=0->q'=q/\q<=8*B.length)/\mF w' d f base g off cap z B st q'/\Step (fun k=>S k\/k=d\/k=f\/v.ownBlock=some k) w w'/\(∀k,st.v.ownBlock=some k->v.ownBlock=some k\/w.heap.size<=k)
def DK {k:Nat}{xs:aD}(h:nI w k off xs)(r:Nat):nI w k (off+r) (xs.drop r):=fun i hi=>by
 rw[dX]at hi
 have a:=h (r+i) (by omega)
 rw[kM,iV]
 exact a
def a90 (w:aH)(a:Option Addr)(n c b g:Nat):(binOp .eql 31 (.slice a n c) (.slice none b g)).run prog w= .ok (.bool a.isNone) w:=Lib.run_eql_slice_nil w _ _ a n c b g underlying31
def KE (w:aH):Calls prog 110 #[.slice none 0 0] w fun e w'=>e= .returned (.slice none 0 0)/\w'=w:=by have a:=a90;go_enter func110,ntmps110;go_wp2;go_ret;exact⟨rfl,rfl⟩
def vC (k off n cap:Nat)(ys:aD)(w:aH)(r:nI w k off ys)(hn:ys.length=n)(z:n<=4000000):Calls prog 110 #[.slice (some (U k off)) n cap] w fun e w'=>∃v,e= .returned v/\Taken w' w.heap.size v ys/\O w w':=by
 obtain⟨t,hi,l,g,m⟩:=eD info5;have i:(jR ys).length=n*1:=by simp[hn]
 have a:=fun o=>(r.step ((aU (fun _=>False) w).alloc o) (fun x=>x)).news;have y:=a90;go_enter func110,ntmps110;go_wp2_with (at_builtin;refine wpList_append_own _ rfl _ _ 31 rfl w.heap.size 5 t (.int .u8 0) 1 1 underlying31 hi l g m rfl (by decide) _ _ _ rfl (World.ownsRow_made w #[] 0 (aS _) (iZ _) rfl) (U k off) n cap (jR ys) rfl i (a _) (yK ys) (by unfold maxLen;omega) (by omega) (by simp) ?_);intro s w1 c b q;go_wp2;go_ret;refine⟨s,rfl,?_,((aU (fun _=>False) w).alloc _).grown b (fun j u=> .inr ?_)⟩
 ·unfold Taken;rw[hn];exact c
 ·simp only[Value.ownBlock,fH]at u;omega
def Apart (v v':aK):Prop:=∀j,v.ownBlock=some j->v'.ownBlock≠some j
def oP (st:iH)(v:aK):iH:={ st with v:=v,out:=xI st.out,fresh:=0 }
def Es {w1 w2 w4:aH}{st:iH}{a:aK}(h:Dec w d f base st)(i:O w w1)(c:Step (·=d) w1 w2)(g:O w2 w4)(q:Dec w4 d f base { st with fresh:=0 })(hn:st.out.length=n)(o:65536<n)(r:Taken w1 w.heap.size v ys)(b:Taken w4 w2.heap.size a (st.out.drop (n-32768))):Taken (w4.setCell (U d 1) a) w.heap.size v ys/\Dec (w4.setCell (U d 1) a) d f base (oP st a)/\dH d w st.v (w4.setCell (U d 1) a) a/\Apart v a:=by
 have C:=h.ag2;have D:=h.af8;have y:=i.size;have A:=c.size;have l:Step (·=d) w4 (w4.setCell (U d 1) a):=(aU (·=d) w4).setCell (p:=(U d 1)) rfl _;have t:xI st.out=st.out.drop (n-32768):=by unfold xI;rw[hn,aA o]
 refine⟨((r.step c (fun k hk x=>by omega)).step g (fun _ _ x=>x)).step l (fun k hk x=>by omega),⟨?_,?_,h.ag2,h.as5,h.ne,?_⟩,⟨?_,?_⟩,fun j z m=>by have:=(r.lt j z).2;have:=(b.lt j m).1;omega⟩
 ·have s:=aV q.blk 1 a;have u:(iH.cells f { st with fresh:=0 }).set! 1 a=iH.cells f (oP st a):=by simp[iH.cells,oP]
  rw[u]at s;exact s
 ·show World.ownsRow _ base _ 1 a (xI st.out).length (jR (xI st.out));rw[t];exact bH (b.step l (fun k hk x=>by omega)) (by omega)
 ·have:=g.size;simp[World.setCell];omega
 ·exact(((i.mono (fun _ x=>x.elim)).trans (c.mono (fun _ x=> .inl x))).trans (g.mono (fun _ x=>x.elim))).setCell (p:=(U d 1)) (.inl rfl) _
 ·intro k hk;have:=(b.lt k hk).1;exact .inr (by omega)
def Uj (d f base g n l fr:Nat)(st:iH)(w:aH)(h:Dec w d f base st)(hk:st.out.length<=1048576)(hv:st.v= .slice (some (U g 0)) n l)(hn:st.out.length=n)(ah:st.fresh=fr)(hf:fr<=n)(bc:n<=l)(bf:l<=9223372036854775807)(hl:nI w g 0 st.out):Calls prog 118 #[.pointer (some (U d 1))] w fun e w'=>∃v v',e= .returned v/\Taken w' w.heap.size v (st.out.drop (n-fr))/\Dec w' d f base (oP st v')/\dH d w st.v w' v'/\Apart v v':=by
 obtain⟨_,c1,_,_,_,_,_,_,_,_,_,c2⟩:=h.cell;rw[hv]at c1;rw[ah]at c2;have ba:=hk;rw[hn]at ba;have F:(st.out.drop (n-fr)).length=fr:=by rw[dX,hn];omega
 have m:=DK hl (n-fr);rw[dS]at m;obtain⟨lo,J⟩:=aP (n-fr);rw[<-J]at F m|-
 obtain⟨ys,af⟩:=aP (st.out.drop lo);rw[<-af]at F m|-
 have aj:IntKind.i64.wrap ((n:Int)-(fr:Int))=(lo:Int):=by rw[dK];omega
 have aq:(0:Int)<=(lo:Int):=by omega
 have ao:(lo:Int)<=(n:Int):=by omega
 have au:n-lo=fr:=by omega
 have an:(n:Int)<=(l:Int):=by omega
 have ar:(lo:Int)<=(l:Int):=by omega
 have ap:=hide (show∀c,Calls prog 110 #[.slice (some (U g lo)) fr c] w.drew fun e w'=>∃v,e= .returned v/\Taken w' w.heap.size v ys/\O w.drew w' from fun c=>vC g lo fr c ys w.drew (m.step ((aU (fun _=>False) w).drew) (fun x=>x)) F (by omega));have al:=hide (show fr=0->∀c,Calls prog 110 #[.slice (some (U g 0)) 0 c] w.drew fun e w'=>∃v,e= .returned v/\Taken w' w.heap.size v ys/\O w.drew w' from fun h0 c=>vC g 0 0 c ys w.drew (fun i hi=>by omega) (by omega) (by omega));have N:=hide h;have HV:=hide hv;have H:=hide hn;have HL:=hide hl;have ag:=hk;have P:=hide J;clear hl m h hv hn af F hk ah J;have S:n<=65536\/65536<n:=by omega
 have L:=hide (show∀w1 v,Taken w1 w.heap.size v ys->O w w1->n<=65536->Taken (w1.setCell (U d 2) (V 0)) w.heap.size v ys/\Dec (w1.setCell (U d 2) (V 0)) d f base (oP st st.v)/\dH d w st.v (w1.setCell (U d 2) (V 0)) st.v/\Apart v st.v from fun w1 v ht hs Q=>by
  have hd:=N.o.ag2;have hb:=N.o.af8;have e1:xI st.out=st.out:=by unfold xI;rw[H.o,aB (by omega)]
  refine⟨ht.step ((aU (·=d) w1).setCell (p:=(U d 2)) rfl _) (fun k hk x=>by omega),?_,⟨(hs.mono (fun _ x=>x.elim)).setCell (p:=(U d 2)) (.inl rfl) _,fun _ x=> .inl x⟩,fun j hj aw=>by have:=(ht.lt j hj).1;have:=(N.o.own.lt j aw).2;omega⟩;unfold oP;rw[e1];exact(N.o.step0 hs).set (st':={ st with fresh:=0 }) 2 (V 0) (by simp[iH.cells]) rfl rfl)
 have bg:=N.o.ag2;have be:=N.o.af8;by_cases ab:l=lo
 ·have J:=P.o;have ae:fr=0:=by omega
  have az:n=l:=by omega
  clear J P;subst ae;subst ab;subst az;have c2:w.cell? (U d 2)=some (V 0):=c2;have bh:IntKind.i64.wrap (n:Int)=(n:Int):=by rw[dK];omega
  have bj:(0:Int)<=(n:Int):=by omega
  have ai:=hide (al.o rfl);clear aj au ao ar an aq al;go_enter func118,ntmps118;go_wp2_with fail
  go_region_held3 (fun w'=>w'.cell? (U d 1)=some (.slice (some (U g 0)) n n)/\w'.cell? (U d 2)=some (V 0)) (go_keep)
   (first|(go_at_call 110;apply(ai.o _).mono;rintro e w1 ⟨v,rfl,Y,C⟩;have k1:=C.cell (p:=(U d 1)) c1 (fun x=>x);have k2:=C.cell (p:=(U d 2)) c2 (fun x=>x)))
  have q:O w w1:=(aU (fun _=>False) w).drew.trans C;have h1:=N.o.step0 q;have ay:=h1.free 2;have aa:=q.size;have H1:=hide h1;have I:=hide Y;have K:=hide q;rcases S with Q|W
  ·have T:¬((65536:Int)<(n:Int)):=(by omega);go_wp2_with fail;go_ret;have h9:=L.o w1 v I.o K.o Q;exact⟨v,rfl,h9.1,st.v,h9.2⟩
  ·have T:(65536:Int)<(n:Int):=(by omega);go_wp2_with fail;obtain⟨w2,t⟩:=aP (w1.setCell (U d 2) (V 0));have G:Dec w2 d f base { st with fresh:=0 }:=(by rw[t];exact H1.o.set (st':={ st with fresh:=0 }) 2 (V 0) (by simp[iH.cells]) rfl rfl);have s:Step (·=d) w1 w2:=(by rw[t];exact(aU (·=d) w1).setCell (p:=(U d 2)) rfl _);rw[<-t];have ad:=s.size;apply(FI d f base { st with fresh:=0 } w2 G ag).mono;rintro e w3 ⟨rfl,a,rfl,A⟩;obtain⟨g',ha,b⟩:=A (by show 0<st.out.length;rw[H.o];omega);replace b:nI w3 g' 0 st.out:=b;subst ha;have z:min ({ st with fresh:=0 }:iH).out.length 32768=32768:=(by show min st.out.length 32768=32768;rw[H.o];omega);have u:({ st with fresh:=0 }:iH).out.length-32768=n-32768:=(by show st.out.length-32768=n-32768;rw[H.o]);rw[z,u];have m:=DK b (n-32768);rw[dS]at m;have R:=vC g' (n-32768) 32768 32768 (st.out.drop (n-32768)) w3 m (by rw[dX,H.o];omega) (by omega);have am:=hide R;have av:=hide G;have ak:=hide s;clear R m b A z u G s t;go_wp2_with fail;apply am.o.mono;rintro e w4 ⟨v',rfl,y,M⟩;have D:=av.o.step0 M;obtain⟨a4,c4,X⟩:=y.slice;obtain⟨_,q1,_⟩:=D.cell;have bb:=D.free 1;have r:=hide (Es N.o K.o ak.o M D H.o W I.o y);rw[X]at r|-
   have ax:w4.cell? (U d 1)=some (.slice (some (U g 0)) n n):=q1.trans (by rw[<-HV.o]);have Z:(st.out.drop (n-32768)).length=32768:=(by rw[dX,H.o];omega);rw[Z]at r|-
   go_wp2_with fail;go_ret;exact⟨v,_,rfl,r.o⟩
 ·have ac:=hide P;clear P ac;go_enter func118,ntmps118;go_wp2_with fail
  go_region_held3 (fun w'=>w'.cell? (U d 1)=some (.slice (some (U g 0)) n l)/\w'.cell? (U d 2)=some (V fr)) (go_keep)
   (first|(go_at_call 110;apply(ap.o _).mono;rintro e w1 ⟨v,rfl,Y,C⟩;have k1:=C.cell (p:=(U d 1)) c1 (fun x=>x);have k2:=C.cell (p:=(U d 2)) c2 (fun x=>x)))
  have q:O w w1:=(aU (fun _=>False) w).drew.trans C;have h1:=N.o.step0 q;have ay:=h1.free 2;have aa:=q.size;have H1:=hide h1;have I:=hide Y;have K:=hide q;rcases S with Q|W
  ·have T:¬((65536:Int)<(n:Int)):=(by omega);go_wp2_with fail;go_ret;have h9:=L.o w1 v I.o K.o Q;exact⟨v,rfl,h9.1,st.v,h9.2⟩
  ·have T:(65536:Int)<(n:Int):=(by omega);go_wp2_with fail;obtain⟨w2,t⟩:=aP (w1.setCell (U d 2) (V 0));have G:Dec w2 d f base { st with fresh:=0 }:=(by rw[t];exact H1.o.set (st':={ st with fresh:=0 }) 2 (V 0) (by simp[iH.cells]) rfl rfl);have s:Step (·=d) w1 w2:=(by rw[t];exact(aU (·=d) w1).setCell (p:=(U d 2)) rfl _);rw[<-t];have ad:=s.size;apply(FI d f base { st with fresh:=0 } w2 G ag).mono;rintro e w3 ⟨rfl,a,rfl,A⟩;obtain⟨g',ha,b⟩:=A (by show 0<st.out.length;rw[H.o];omega);replace b:nI w3 g' 0 st.out:=b;subst ha;have z:min ({ st with fresh:=0 }:iH).out.length 32768=32768:=(by show min st.out.length 32768=32768;rw[H.o];omega);have u:({ st with fresh:=0 }:iH).out.length-32768=n-32768:=(by show st.out.length-32768=n-32768;rw[H.o]);rw[z,u];have m:=DK b (n-32768);rw[dS]at m;have R:=vC g' (n-32768) 32768 32768 (st.out.drop (n-32768)) w3 m (by rw[dX,H.o];omega) (by omega);clear m b A z u t;go_wp2_with fail;apply R.mono;rintro e w4 ⟨v',rfl,y,M⟩;have D:=G.step0 M;obtain⟨a4,c4,X⟩:=y.slice;obtain⟨_,q1,_⟩:=D.cell;have bb:=D.free 1;have r:=hide (Es N.o K.o s M D H.o W I.o y);rw[X]at r|-
   have ax:w4.cell? (U d 1)=some (.slice (some (U g 0)) n l):=q1.trans (by rw[<-HV.o]);have Z:(st.out.drop (n-32768)).length=32768:=(by rw[dX,H.o];omega);rw[Z]at r|-
   go_wp2_with fail;go_ret;exact⟨v,_,rfl,r.o⟩
def Dv (d f base:Nat)(st:iH)(w:aH)(h:Dec w d f base st)(hk:st.out.length<=1048576)(C:st.fresh<=st.out.length):Calls prog 118 #[.pointer (some (U d 1))] w fun e w'=>∃v u,e= .returned v/\Taken w' w.heap.size v (st.out.drop (st.out.length-st.fresh))/\Dec w' d f base (oP st u)/\dH d w st.v w' u/\Apart v u:=by
 have c:=h.own;obtain⟨M,⟨m,hn⟩|⟨g,l,G,m,L,hh,q,y,I,J⟩⟩:=c
 ·obtain⟨_,c1,_,_,_,_,_,_,_,_,_,c2⟩:=h.cell;have f2:=h.free 2;have r:st.fresh=0:=by omega
  rw[m]at c1;rw[r]at c2;have z:st.out=[]:=kP hn;have a:=hide (show∀k,Dec ((w.setCell (U d 2) (V 0)).drewN k) d f base (oP st st.v)/\dH d w st.v ((w.setCell (U d 2) (V 0)).drewN k) st.v from fun k=>by
   refine⟨?_,⟨((aU _ w).setCell (p:=(U d 2)) (.inl rfl) _).drewN k,fun _ x=> .inl x⟩⟩;have F:xI st.out=st.out:=(by rw[z];rfl);unfold oP;rw[F];exact(h.set (st':={ st with fresh:=0 }) 2 (V 0) (by simp[iH.cells]) rfl rfl).other rfl (fun _ _=>rfl) (aS _))
  rw[z];have t:=KE w.drew;have H:w.cell? (U d 2)=some (V 0):=c2;have D:IntKind.i64.wrap 0=0:=rfl;go_enter func118,ntmps118;go_wp2_with fail
  go_region_held3 (fun w'=>w'.cell? (U d 1)=some (.slice none 0 0)/\w'.cell? (U d 2)=some (V 0)) (go_keep)
   (first|(go_at_call 110;apply t.mono;rintro e w1 ⟨rfl,rfl⟩))
  go_wp2_with fail;go_ret;refine⟨_,_,rfl,?_,(a.o 1).1,(a.o 1).2,fun j K=>by simp[Value.ownBlock]at K⟩;rw[List.drop_nil];exact jJ _ _ _ _
 ·have b:nI w g 0 st.out:=fun i hi=>by
   have A:=h.own;rw[m]at A;have s:=A.cellAt i (by omega);rw[dS,s];exact qM _ _ hi
  exact Uj d f base g st.out.length l st.fresh st w h hk m rfl rfl C q (by unfold maxLen at y;omega) b
def Dn (d f base g off cap z n e:Nat)(B:aD)(s:GS)(out:aD)(q:Nat)(v:aK)(w:aH)(u:dJ w d f base g off cap z B s v)(F:eZ B n s e out q):Calls prog 74 #[E d] w fun r w'=>∃t,r= .returned (.tuple #[t,V e])/\V6 d f base g off cap z e B out q v (fun _=>False) w w'/\Taken w' w.heap.size t (out.drop s.taken):=by
 have b:=Xk d f base g off cap z n e B s out q v w u F;have y:=F.most u.room;have K:=u.most;go_enter func74,ntmps74;go_wp2_with fail;apply b.mono;rintro r w1 ⟨rfl,st,q',l,J,C,D⟩;have G:=l.le;have i:=Dv d f base st w1 C.dec (by omega) l.kept;rw[QJ l]at i;have j:=hide (show∀w' a,Dec w' d f base (oP st a)->dH d w1 st.v w' a->V6 d f base g off cap z e B out q v (fun _=>False) w w' from fun w' a x m=>by
  have c:=D.trans (fC.xH (f:=f) m);exact⟨oP st a,q',sG.take l a,J,C.put x m,c.step.mono (fun k hk=> .inr hk),c.own⟩)
 have A:=D.step.size;go_wp2_with fail;apply i.mono;rintro r w2 ⟨t,a,rfl,I,x,m,_⟩;have H:=hide (j.o w2 a x m);have HB:=hide (I.mono A);go_wp2_with fail;go_ret2;exact⟨t,rfl,H.o,HB.o⟩
def O6 (f most:Nat)(w:aH):Calls prog 49 #[E f,V most] w fun e w'=>e= .returned (E w.heap.size)/\w'=w.alloc (.cells #[E f, .slice none 0 0,V 0,V most,V 0, .bool false,V 0, .map none,V 0, .map none,V 0, .pointer none] 128):=by go_enter func49,ntmps49;go_wp2;go_ret;exact⟨rfl,rfl⟩
def asked (most:Int):Nat:=if most<0 then 0 else if 1048576<most then 1048576 else most.toNat
def vW (most:Int):asked most<=1048576:=by unfold asked;split<;>(try split)<;>omega
def Ac (most:Int)(w:aH):Calls prog 37 #[V most] w fun e w'=>e= .returned (V (asked most:Nat))/\w'=w:=by
 by_cases b:most<0
 ·have a:asked most=0:=by unfold asked;rw[aA b]
  rw[a];have c:max most 0=0:=by omega
  go_enter func37,ntmps37;go_wp2_with fail;go_ret;exact⟨rfl,rfl⟩
 ·by_cases g:1048576<most;focus
   have a:asked most=1048576:=(by unfold asked;rw[aB b,aA g]);rw[a];have c:max most 0=most:=(by omega);have i:min most 1048576=1048576:=by omega
  rotate_left;focus
   have a:((asked most:Nat):Int)=most:=(by unfold asked;rw[aB b,aB g];omega);have c:max most 0=most:=(by omega);have i:min most 1048576=most:=(by omega);rw[a]
  all_goals
   go_enter func37,ntmps37;go_wp2_with fail;go_ret;exact⟨rfl,rfl⟩
def ao6 (f most:Nat)(w:aH):Calls prog 36 #[V 0,E f,V most] w fun e w'=>e= .returned (.tuple #[.pointer (some ⟨w.heap.size+1,0,none⟩),V 0])/\w'=((w.alloc (.cells #[E f, .slice none 0 0,V 0,V most,V 0, .bool false,V 0, .map none,V 0, .map none,V 0, .pointer none] 128)).alloc (.cells #[E f,E w.heap.size, .slice (some ⟨w.heap.size+1+1,0,none⟩) 1 1, .slice none 0 0, .string ⟨#[]⟩] 96)).alloc (.cells #[.func (.func 50) #[.pointer (some ⟨w.heap.size+1,0,none⟩)] #[]] 138):=by go_enter func36,ntmps36;go_wp2_with fail;apply(O6 f most _).mono;rintro e w1 ⟨rfl,a⟩;have b:=ar9;go_wp2_with fail;go_ret2;exact⟨rfl,rfl⟩
def V6.widen {g cap z:Nat}{q:Nat}{S S':Nat->Prop}(h:V6 d f base g off cap z e B out q v S w w')(hs:∀k,S k->S' k):V6 d f base g off cap z e B out q v S' w w':=by obtain⟨st,q',b,i,a,c,j⟩:=h.ex;exact⟨st,q',b,i,a,c.mono (fun k hk=>hk.imp (hs k) id),j⟩
def V6.set {g cap z D:Nat}{q:Nat}(h:V6 d f base g off cap z e B out q v (·=D) w w')(b:tK d f v D)(o:D<base)(c:g≠D)(i n:Nat)(u:aK):V6 d f base g off cap z e B out q v (·=D) w ((w'.setCell (U D i) u).drewN n):=by
 obtain⟨st,q',l,t,a,s,m⟩:=h.ex;have hs:Step (·=D) w' ((w'.setCell (U D i) u).drewN n):=((aU (·=D) w').setCell (p:=(U D i)) rfl u).drewN n;have j:st.v.ownBlock≠some D:=fun r=>by have:=(a.dec.own.lt D r).1;omega
 refine⟨st,q',l,t,⟨?_,hs.at_ a.feed (fun x=>b.f x.symm),a.src.step hs c,a.af9,nM a.glt hs.size⟩,?_,m⟩
 ·exact a.dec.other (hs.block d (aO a.dec.blk) (fun x=>b.d x.symm)) (fun k hk=>hs.block k (a.dec.own.lt k hk).2 (fun x=>j (x▸hk))) hs.size
 ·exact s.trans (hs.mono (fun k hk=> .inl hk))
def rQ (most:Nat):GS:={ out:=[],most:=most,place:=0,last:=false,left:=0,ls:=[],ld:=[],p:=0 }
def Ud (D:Nat)(x:bY)(w:aH)(a:w.cell? (U D 4)=some (.string x)):Calls prog 54 #[E D] w fun e w'=>e= .returned (.string x)/\w'=w:=by go_enter func54,ntmps54;go_wp2_with fail;go_ret;exact⟨rfl,rfl⟩
def CO (z e q:Nat):Nat:=if e=0 then z+(q+7)/8 else 0
def init (most:Nat):PS:={ out:=[],most:=most,place:=0,last:=false,left:=0,tab:=fun _=>none,longest:=0,p:=0 }
def rM (B:aD):List Bool:=(List.range (8*B.length)).map fun p=>decide (bK B p=1)
def rJ (B:aD):(rM B).length=8*B.length:=by simp[rM]
def FC (B:aD)(h:∀i:Nat,B[i]?.getD 0<256):bQ (rM B) B:=by
 refine⟨h,fun p=> ?_⟩;by_cases hp:p<8*B.length
 ·unfold rM;rw[kE,zI hp];have:=kQ B p;have a:bK B p=0\/bK B p=1:=by omega
  rcases a with e|e<;>simp[e]
 ·rw[fZ (by rw[rJ];omega)];unfold bK;rw[fZ (by omega)];simp
end Go.Proofs.YtbpahojchgpdnaaGreatDoor
