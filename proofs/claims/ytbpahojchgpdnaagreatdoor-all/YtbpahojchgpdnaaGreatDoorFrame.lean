import Derived.Test.YtbpahojchgpdnaaGreatDoorGround
import Derived.Deep.RegionLaw
import Derived.Deep.AppendLies
set_option maxRecDepth 20000
set_option maxHeartbeats 4000000
set_option linter.all false
namespace Go.Proofs.YtbpahojchgpdnaaGreatDoor
open Go.RowKit Go.dM Go.Maps Go.Proofs.Tryz
variable {w w' w1:aH} {base cap d e f g k n off p q q' s t taken td tf z:Nat} {B out xs:aD} {v v':aK}
def wI (B:aD)(p:Nat):Nat->Nat->Nat
 |0,_=>0
 |k+1,i=>if i=bP[k]?.getD 0 then aG B (p+3*k) 3 else wI B p k i
def ai7 (B:aD)(p k i:Nat):wI B p k i<=7:=by
 induction k with
 |zero=>simp[wI]
 |succ k ih=>
  rw[wI];split
  ·have:=bO B (p+3*k) 3;omega
  ·exact ih
def bD (B:aD)(p c:Nat):aD:=(List.range 19).map (wI B p c)
def jD (B:aD)(p c:Nat):(bD B p c).length=19:=by simp[bD]
def EZ (B:aD)(p c i:Nat)(hi:i<19):(bD B p c)[i]?.getD 0=wI B p c i:=by simp[bD,hi]
def Z8 (B:aD)(p c i:Nat):(bD B p c)[i]?.getD 0<=15:=by
 by_cases hi:i<19
 ·rw[EZ _ _ _ _ hi];have:=ai7 B p c i;omega
 ·rw[fZ (by rw[jD];omega)];simp
def Dt (i:Nat):bP[i]?.getD 0<19:=by
 by_cases hi:i<19
 ·have:i=0\/i=1\/i=2\/i=3\/i=4\/i=5\/i=6\/i=7\/i=8\/i=9\/i=10\/i=11\/i=12\/i=13\/i=14\/i=15\/i=16\/i=17\/i=18:=by omega
  rcases this with rfl|rfl|rfl|rfl|rfl|rfl|rfl|rfl|rfl|rfl|rfl|rfl|rfl|rfl|rfl|rfl|rfl|rfl|rfl<;>decide
 ·rw[fZ (by simp[bP];omega)];simp
structure bL (w:aH):Prop where
 order:∀i:Nat,i<19->w.cell? ⟨0,i,none⟩=some (V (bP[i]?.getD 0:Nat))
 many:w.cell? ⟨1,0,none⟩=some (V 18)/\w.cell? ⟨1,1,none⟩=some (V 11)/\w.cell? ⟨1,2,none⟩=some (V 7)
 few:w.cell? ⟨2,0,none⟩=some (V 17)/\w.cell? ⟨2,1,none⟩=some (V 3)/\w.cell? ⟨2,2,none⟩=some (V 3)
 again:w.cell? ⟨3,0,none⟩=some (V 16)/\w.cell? ⟨3,1,none⟩=some (V 3)/\w.cell? ⟨3,2,none⟩=some (V 2)
def bL.step {S:Nat->Prop}(h:bL w)(hs:Step S w w')(hn:∀k,k<4->¬S k):bL w':=
 ⟨fun i hi=>hs.cell (h.order i hi) (hn 0 (by omega)),⟨hs.cell h.many.1 (hn 1 (by omega)),hs.cell h.many.2.1 (hn 1 (by omega)),hs.cell h.many.2.2 (hn 1 (by omega))⟩,
  ⟨hs.cell h.few.1 (hn 2 (by omega)),hs.cell h.few.2.1 (hn 2 (by omega)),hs.cell h.few.2.2 (hn 2 (by omega))⟩,⟨hs.cell h.again.1 (hn 3 (by omega)),hs.cell h.again.2.1 (hn 3 (by omega)),hs.cell h.again.2.2 (hn 3 (by omega))⟩⟩
def aB5:(#[V 0,V 0,V 0,V 0,V 0,V 0,V 0,V 0,V 0,V 0,V 0,V 0,V 0,V 0,V 0,V 0,V 0,V 0,V 0]:Array aK)=Array.replicate 19 (V 0):=rfl
end Go.Proofs.YtbpahojchgpdnaaGreatDoor
namespace Go.dM
open Go Go.RowKit
variable {w w' w1:aH} {base cap d e f g k n off p q q' s t taken td tf z:Nat} {B out xs:aD} {v v':aK}
structure iH where
 v:aK
 out:aD
 fresh:Nat
 room:Nat
 place:Nat
 last:Bool
 left:Nat
 sm:aK
 sl:Nat
 dm:aK
 dl:Nat
 fx:aK
def iH.cells (f:Nat)(st:iH):Array aK:=
 #[E f,st.v,V (st.fresh:Nat),V (st.room:Nat),V (st.place:Nat), .bool st.last,V (st.left:Nat),st.sm,V (st.sl:Nat),st.dm,V (st.dl:Nat),st.fx]
structure lX (w:aH)(d f base t e:Nat)(st:iH):Prop where
 blk:w.heap[d]? =some (.cells (st.cells f) t (0,0))
 own:w.ownsRow base e 1 st.v st.out.length (jR st.out)
 ag2:d<base
 as5:f<base
 ne:d≠f
 af8:base<=w.heap.size
def iH.add (st:iH)(v:aK)(xs:aD):iH:={ st with v:=v,out:=st.out++xs,fresh:=st.fresh+xs.length,room:=st.room-xs.length }
structure sG (st:iH)(taken:Nat)(out:aD):Prop where
 old:∃old,out=old++st.out/\(old=[]\/32768<=st.out.length)
 fresh:st.fresh+taken=out.length
 kept:st.fresh<=st.out.length
def sG.add {st:iH}(h:sG st taken out)(v:aK)(xs:aD):sG (st.add v xs) taken (out++xs):=by
 obtain⟨old,a,b⟩:=h.old;have c:=h.fresh;have i:=h.kept;refine⟨⟨old,?_,?_⟩,?_,?_⟩
 ·show out++xs=old++(st.out++xs)
  rw[a,dB]
 ·show old=[]\/32768<=(st.out++xs).length;rw[aN];exact b.imp id (fun x=>by omega)
 ·show st.fresh+xs.length+taken=(out++xs).length;rw[aN];omega
 ·show st.fresh+xs.length<=(st.out++xs).length;rw[aN];omega
def sG.le {st:iH}(h:sG st taken out):st.out.length<=out.length/\st.fresh<=out.length:=by obtain⟨old,a,b⟩:=h.old;have c:=h.fresh;rw[a,aN]at*;omega
structure Small (st:iH):Prop where
 room:st.room<=1048576
 fresh:st.fresh<=1048576
 out:st.out.length<=1048576
def sG.small {st:iH}{most:Nat}(h:sG st taken out)(a:st.room+out.length=most)(b:most<=1048576):Small st:=by have:=h.le;exact⟨by omega,by omega,by omega⟩
def sG.same {st st':iH}(h:sG st taken out)(a:st'.out=st.out)(b:st'.fresh=st.fresh):sG st' taken out:=⟨by rw[a];exact h.old,by rw[b];exact h.fresh,by rw[a,b];exact h.kept⟩
structure fC (d f:Nat)(w:aH)(v:aK)(w':aH)(v':aK):Prop where
 step:Step (fun k=>k=d\/k=f\/v.ownBlock=some k) w w'
 own:∀k,v'.ownBlock=some k->v.ownBlock=some k\/w.heap.size<=k
def fC.refl (d f:Nat)(w:aH)(v:aK):fC d f w v w v:=⟨aU _ _,fun _ h=> .inl h⟩
def fC.trans {w2:aH}{v1 b:aK}(h:fC d f w v w1 v1)(k:fC d f w1 v1 w2 b):fC d f w v w2 b:=
 ⟨h.step.trans' k.step fun i hi a=>a.elim .inl fun a=>a.elim (fun x=> .inr (.inl x)) fun a=>(h.own i a).elim (fun x=> .inr (.inr x)) (fun x=>by omega),
  fun i hi=>(k.own i hi).elim (h.own i) (fun a=>by have:=h.step.size;exact .inr (by omega))⟩
def fC.fed (h:lV f w w' p):fC d f w v w' v:=⟨h.step.mono fun a hk=> .inr (.inl hk),fun _ h=> .inl h⟩
def fC.step0 (h:O w w'):fC d f w v w' v:=⟨h.mono fun _ x=>x.elim,fun _ h=> .inl h⟩
def fC.setCell (d f:Nat)(w:aH)(v:aK)(i:Nat)(u:aK):fC d f w v (w.setCell (U d i) u) v:=⟨(aU _ w).setCell (p:=(U d i)) (.inl rfl) u,fun _ h=> .inl h⟩
def fC.alloc (h:fC d f w v w' v')(o:Obj):fC d f w v (w'.alloc o) v':=⟨h.step.alloc o,h.own⟩
structure tK (d f:Nat)(v:aK)(k:Nat):Prop where
 d:k≠d
 f:k≠f
 row:v.ownBlock≠some k
def tK.not (h:tK d f v k):¬(k=d\/k=f\/v.ownBlock=some k):=fun x=>x.elim h.d fun x=>x.elim h.f h.row
def tK.step (h:tK d f v k)(hk:k<w.heap.size)(a:fC d f w v w' v'):tK d f v' k:=⟨h.d,h.f,fun e=>(a.own k e).elim h.row (fun x=>by omega)⟩
def lX.other {st:iH}(h:lX w d f base t e st)(a:w'.heap[d]? =w.heap[d]?)(b:∀k,st.v.ownBlock=some k->w'.heap[k]? =w.heap[k]?)(hs:w.heap.size<=w'.heap.size):lX w' d f base t e st:=⟨a.trans h.blk,bX h.own b,h.ag2,h.as5,h.ne,bB h.af8 hs⟩
def lX.yL {st:iH}(h:lX w d f base t e st):st.v.ownBlock≠some d/\st.v.ownBlock≠some f:=by have a:=h.ag2;have b:=h.as5;exact⟨fun x=>by have:=(h.own.lt d x).1;omega,fun x=>by have:=(h.own.lt f x).1;omega⟩
def lX.fed {st:iH}(h:lX w d f base t e st)(a:lV f w w' p):lX w' d f base t e st:=h.other (a.step.block d (aO h.blk) h.ne) (fun k hk=>a.step.block k (h.own.lt k hk).2 (fun x=>h.yL.2 (x▸hk))) a.step.size
def lX.step0 {st:iH}(h:lX w d f base t e st)(a:O w w'):lX w' d f base t e st:=h.other (a.block d (aO h.blk) (fun x=>x)) (fun k hk=>a.block k (h.own.lt k hk).2 (fun x=>x)) a.size
def lX.set {st st':iH}(h:lX w d f base t e st)(i:Nat)(u:aK)(b:(st.cells f).set! i u=st'.cells f)(j:st'.v=st.v)(c:st'.out=st.out):lX (w.setCell (U d i) u) d f base t e st':=by
 refine⟨?_,?_,h.ag2,h.as5,h.ne,by simpa[World.setCell]using h.af8⟩
 ·have:=aV h.blk i u;rw[b]at this;exact this
 ·rw[j,c];exact mI h.own (a:=(U d i)) (fun x=>h.yL.1 x) u
def lX.cell {st:iH}(h:lX w d f base t e st):w.cell? (U d 0)=some (E f)/\w.cell? (U d 1)=some st.v/\w.cell? (U d 3)=some (V st.room)/\w.cell? (U d 4)=some (V st.place)/\w.cell? (U d 5)=some (.bool st.last)/\w.cell? (U d 6)=some (V st.left)/\w.cell? (U d 7)=some st.sm/\w.cell? (U d 8)=some (V st.sl)/\w.cell? (U d 9)=some st.dm/\w.cell? (U d 10)=some (V st.dl)/\w.cell? (U d 11)=some st.fx/\w.cell? (U d 2)=some (V st.fresh):=⟨aC h.blk 0 _ rfl,aC h.blk 1 _ rfl,aC h.blk 3 _ rfl,aC h.blk 4 _ rfl,aC h.blk 5 _ rfl,aC h.blk 6 _ rfl,aC h.blk 7 _ rfl,aC h.blk 8 _ rfl,aC h.blk 9 _ rfl,aC h.blk 10 _ rfl,aC h.blk 11 _ rfl,aC h.blk 2 _ rfl⟩
def lX.free {st:iH}(h:lX w d f base t e st)(i:Nat):w.frozen? (U d i)=false:=aJ h.blk i
def lX.vQ {st:iH}(h:lX w d f base t e st):∃a c,st.v= .slice a st.out.length c:=by
 obtain⟨_,⟨b,hn⟩|⟨g,cap,_,b,_⟩⟩:=h.own
 ·exact⟨none,0,by rw[b,hn]⟩
 ·exact⟨_,_,b⟩
def lX.app {m:Nat}{st:iH}(h:lX w d f base t e st)(b:w1.ownsRow base e 1 (.slice (some (U g 0)) (st.out.length+m) cap) (st.out.length+m) (jR st.out++jR xs))(u:xs.length=m)(c:w.grownBy w1 st.v.ownBlock)(o:st.v.ownBlock=some g\/w.heap.size<=g):w1.heap[d]? =some (.cells (st.cells f) t (0,0))/\lX (w1.setCell (U d 1) (.slice (some (U g 0)) (st.out.length+m) cap)) d f base t e { st with v:= .slice (some (U g 0)) (st.out.length+m) cap,out:=st.out++xs }/\dH d w st.v (w1.setCell (U d 1) (.slice (some (U g 0)) (st.out.length+m) cap)) (.slice (some (U g 0)) (st.out.length+m) cap):=by
 have A:=h.ag2;have r:base<=g:=(b.lt g rfl).1;have i:w1.heap[d]? =_:=(c.block d (aO h.blk) (fun x=>h.yL.1 x.symm)).trans h.blk;refine⟨i,⟨?_,?_,h.ag2,h.as5,h.ne,?_⟩,⟨?_,?_⟩⟩
 ·have:=aV i 1 (.slice (some (U g 0)) (st.out.length+m) cap);simpa[iH.cells]using this
 ·have y:=mI b (a:=(U d 1)) (by simp[Value.ownBlock];omega) (.slice (some (U g 0)) (st.out.length+m) cap);have j:(st.out++xs).length=st.out.length+m:=by rw[aN,u]
  have l:jR (st.out++xs)=jR st.out++jR xs:=by simp[jR]
  show World.ownsRow _ _ _ _ _ (st.out++xs).length (jR (st.out++xs));rw[j,l];exact y
 ·have:=h.af8;have:=c.size;simp[World.setCell];omega
 ·refine Step.setCell ((aU _ w).grown c fun k hk=> .inl (.inr hk)) ?_ _;exact .inl rfl
 ·intro k hk;simp only[Value.ownBlock,fH]at hk;subst hk;exact o
def fC.xH (h:dH d w v w' v'):fC d f w v w' v':=⟨h.step.mono fun a hk=>hk.elim .inl fun x=> .inr (.inr x),h.own⟩
structure On (w:aH)(d f base g off cap z td tf e:Nat)(B:aD)(st:iH)(p:Nat):Prop where
 dec:lX w d f base td e st
 feed:w.heap[f]? =some (.cells #[.slice (bE g off B.length) B.length cap,V (p:Nat),V (z:Nat)] tf (0,0))
 src:ay5 w g off B
 af9:tK d f st.v g
 glt:g<w.heap.size
def On.fed {st:iH}{b:Nat}(h:On w d f base g off cap z td tf e B st p)(a:lV f w w' b):On w' d f base g off cap z td tf e B st b:=⟨h.dec.fed a,a.feed _ _ _ _ h.feed,h.src.step a.step h.af9.f,h.af9,nM h.glt a.step.size⟩
def On.step0 {st:iH}(h:On w d f base g off cap z td tf e B st p)(a:O w w'):On w' d f base g off cap z td tf e B st p:=⟨h.dec.step0 a,a.at_ h.feed (fun x=>x),h.src.step a (fun x=>x),h.af9,nM h.glt a.size⟩
def On.set {st st':iH}(h:On w d f base g off cap z td tf e B st p)(i:Nat)(u:aK)(b:(st.cells f).set! i u=st'.cells f)(a:st'.v=st.v)(c:st'.out=st.out):On (w.setCell (U d i) u) d f base g off cap z td tf e B st' p:=⟨h.dec.set i u b a c,(cZ _ _ _ _ (fun x=>h.dec.ne x.symm)).trans h.feed,h.src.step ((aU (·=d) w).setCell (p:=(U d i)) rfl u) h.af9.d,by rw[a];exact h.af9,by simpa[World.setCell]using h.glt⟩
def On.put {st st':iH}(h:On w d f base g off cap z td tf e B st p)(b:lX w' d f base td e st')(a:dH d w st.v w' st'.v):On w' d f base g off cap z td tf e B st' p:=
 ⟨b,a.step.at_ h.feed (fun x=>x.elim (fun y=>h.dec.ne y.symm) h.dec.yL.2),h.src.step a.step (fun x=>x.elim h.af9.d h.af9.row),
  h.af9.step h.glt (fC.xH a),nM h.glt a.step.size⟩
end Go.dM
namespace Go.Proofs.YtbpahojchgpdnaaGreatDoor
open Go.RowKit Go.dM Go.Proofs.Tryz
abbrev Dec (w:aH)(d f base:Nat)(st:iH):Prop:=lX w d f base 128 5 st
variable {w w' w1:aH} {base cap d e f g k n off p q q' s t taken td tf z:Nat} {B out xs:aD} {v v':aK}
def nI (w:aH)(k off:Nat)(xs:aD):Prop:=∀i:Nat,i<xs.length->w.cell? ⟨k,off+i,none⟩=some (.int .u8 (xs[i]?.getD 0:Nat))
def nI.news (h:nI w k off xs):∀j u,(jR xs)[j]? =some u->w.cell? (((U k off):Addr).add j)=some u:=by
 intro j u b;have i:j<xs.length:=by
  rcases mK j xs.length with c|c
  ·exact c
  ·rw[fZ (by simpa using c)]at b;cases b
 rw[qM xs j i]at b;cases b;have l:=h j i;have a:((U k off):Addr).add j=⟨k,off+j,none⟩:=by unfold Addr.add;split<;>simp_all
 rw[a];exact l
def nI.take (h:nI w k off xs)(r:Nat):nI w k off (xs.take r):=fun i hi=>by
 have a:i<xs.length:=by simp at hi;omega
 have b:i<r:=by simp at hi;omega
 rw[h i a,jQ b]
def yK (xs:aD):∀u∈jR xs,u.oneCell'=true:=by intro u a;simp only[jR,sU]at a;obtain⟨c,_,rfl⟩:=a;rfl
def Oo {st:iH}(i:Dec w1 d f base { st with v:=v',out:=st.out++xs })(a:dH d w st.v w1 v')(m:xs.length<=st.room)(F R:Int)(j:F=(st.fresh:Int)+(xs.length:Int))(l:R=(st.room:Int)-(xs.length:Int)):Dec (((w1.setCell (U d 2) (V F)).setCell (U d 3) (V R)).drewN n) d f base (st.add v' xs)/\dH d w st.v (((w1.setCell (U d 2) (V F)).setCell (U d 3) (V R)).drewN n) v':=by
 have b:F=((st.fresh+xs.length:Nat):Int):=by omega
 have c:R=((st.room-xs.length:Nat):Int):=by omega
 rw[b,c];have a1:=i.set (st':={ st with v:=v',out:=st.out++xs,fresh:=st.fresh+xs.length }) 2 (V ((st.fresh+xs.length:Nat):Int)) (by simp[iH.cells]) rfl rfl;have a2:=a1.set (st':=st.add v' xs) 3 (V ((st.room-xs.length:Nat):Int)) (by simp[iH.cells,iH.add]) rfl rfl;refine⟨a2.other rfl (fun _ _=>rfl) (aS _),⟨((a.step.setCell (p:=(U d 2)) (.inl rfl) _).setCell (p:=(U d 3)) (.inl rfl) _).drewN n,a.own⟩⟩
def Em (d f base cap k off m:Nat)(xs:aD)(st:iH)(w:aH)(h:Dec w d f base st)(hx:nI w k off xs)(F:xs.length=m)(ac:1<=m)(ad:m<=1000000)(R:m<=cap)(C:m<=st.room)(hk:Small st):Calls prog 190 #[.pointer (some (U d 1)), .slice (some (U k off)) m cap] w fun e w'=>e= .returned (V 0)/\∃v',Dec w' d f base (st.add v' xs)/\dH d w st.v w' v':=by
 obtain⟨_,c1,c2,_,_,_,_,_,_,_,_,c3⟩:=h.cell;have f1:=h.free 1;obtain⟨va,vc,K⟩:=h.vQ;have y:=h.own;rw[K]at c1 y;have A:=h.af8;obtain⟨i0,hi,L,M,N⟩:=eD info5;have ab:=hk.out;have I:=hk.fresh;have J:=hk.room;obtain⟨fr,c⟩:=aP st.fresh;obtain⟨ro,a⟩:=aP st.room;rw[<-c]at c3 I;rw[<-a]at c2 J C;have S:(m:Int)<=(ro:Int):=by omega
 have W:(0:Int)<=(m:Int):=by omega
 have X:(m:Int)<=(cap:Int):=by omega
 have HX:=hide (show nI w k off xs from hx);have l:xs.length=m:=by exact F
 have D:=fun w1 v' n (h1:Dec w1 d f base { st with v:=v',out:=st.out++xs }) (h2:dH d w st.v w1 v')=>Oo (n:=n) h1 h2 (xs:=xs) (by rw[l,<-a];omega) ((fr:Int)+(m:Int)) ((ro:Int)-(m:Int)) (by rw[l,c]) (by rw[l,a]);have G:=hide c;have H:=hide a;clear hx F hk c a;go_enter func190,ntmps190;go_wp2;go_region_law (refine step_append_lies _ rfl (.tmp 17) (.tmp 20) 31 rfl base 5 i0 (.int .u8 0) 1 1 underlying31 hi L M N rfl (by decide) (.slice va st.out.length vc) st.out.length (jR st.out) (by simp[Act.eval]) (by exact y) (U k off) m cap (jR xs) (by simp[Act.eval]) (by rw[nG,l,wT]) (by exact HX.o.news) (yK _) (by omega) (by unfold maxLen;omega) (by omega) A _ rfl ?_;intro g P w1 j i T aa;have x:w.grownBy w1 st.v.ownBlock:=(by rw[K];exact⟨i.os,i.tape,i.output,i.size,i.block⟩);obtain⟨b,r,u⟩:=h.app (xs:=xs) (m:=m) j l x (by rw[K];exact T.imp id (fun hx=>Nat.le_of_eq hx.symm));have k1:=aC b 1 _ rfl;have ae:=aJ b 1;have k2:=(show w1.cell? (U d 2)=some (V (fr:Nat)) from by rw[G.o];exact aC b 2 _ rfl);have af:=aJ b 2;have k3:=(show w1.cell? (U d 3)=some (V (ro:Nat)) from by rw[H.o];exact aC b 3 _ rfl);have ag:=aJ b 3;have Y:=hide r;have Z:=hide u;clear j i x T b r u);go_wp2;go_ret;have Q:=D _ _ 0 Y.o Z.o;rw[DN]at Q;exact⟨rfl,_,Q⟩
def Ye (d f base cap k off m:Nat)(xs:aD)(st:iH)(w:aH)(h:Dec w d f base st)(hx:nI w k off xs)(H:xs.length=m)(ac:m<=1000000)(S:m<=cap)(K:1<=st.room)(C:st.room<m)(hk:Small st):Calls prog 190 #[.pointer (some (U d 1)), .slice (some (U k off)) m cap] w fun e w'=>e= .returned (V 11)/\∃v',Dec w' d f base (st.add v' (xs.take st.room))/\dH d w st.v w' v':=by
 obtain⟨_,c1,c2,_,_,_,_,_,_,_,_,c3⟩:=h.cell;have f1:=h.free 1;obtain⟨va,vc,M⟩:=h.vQ;have y:=h.own;rw[M]at c1 y;have A:=h.af8;obtain⟨i0,hi,N,P,Q⟩:=eD info5;have ab:=hk.out;have J:=hk.fresh;have L:=hk.room;obtain⟨fr,c⟩:=aP st.fresh;obtain⟨ro,a⟩:=aP st.room;rw[<-c]at c3 J;rw[<-a]at c2 L C;rw[<-a]at K;have T:(ro:Int)<(m:Int):=by omega
 have X:(0:Int)<=(ro:Int):=by omega
 have Y:(ro:Int)<=(cap:Int):=by omega
 have HX:=hide (show nI w k off (xs.take ro) from hx.take ro);have l:(xs.take ro).length=ro:=by rw[dF,H];omega
 have G:=fun w1 v' n (h1:Dec w1 d f base { st with v:=v',out:=st.out++xs.take ro }) (h2:dH d w st.v w1 v')=>Oo (n:=n) h1 h2 (xs:=xs.take ro) (by rw[l,<-a];omega) ((fr:Int)+(ro:Int)) 0 (by rw[l,c]) (by rw[l,<-a];omega);have I:=hide c;have D:=hide a;clear hx H hk c a;go_enter func190,ntmps190;go_wp2;go_region_law (refine step_append_lies _ rfl (.tmp 17) (.tmp 20) 31 rfl base 5 i0 (.int .u8 0) 1 1 underlying31 hi N P Q rfl (by decide) (.slice va st.out.length vc) st.out.length (jR st.out) (by simp[Act.eval]) (by exact y) (U k off) ro cap (jR (xs.take ro)) (by simp[Act.eval]) (by rw[nG,l,wT]) (by exact HX.o.news) (yK _) (by omega) (by unfold maxLen;omega) (by omega) A _ rfl ?_;intro g F w1 j i W aa;have x:w.grownBy w1 st.v.ownBlock:=(by rw[M];exact⟨i.os,i.tape,i.output,i.size,i.block⟩);obtain⟨b,r,u⟩:=h.app (xs:=xs.take ro) (m:=ro) j l x (by rw[M];exact W.imp id (fun hx=>Nat.le_of_eq hx.symm));have k1:=aC b 1 _ rfl;have ad:=aJ b 1;have k2:=(show w1.cell? (U d 2)=some (V (fr:Nat)) from by rw[I.o];exact aC b 2 _ rfl);have ae:=aJ b 2;have k3:=(show w1.cell? (U d 3)=some (V (ro:Nat)) from by rw[D.o];exact aC b 3 _ rfl);have af:=aJ b 3;have Z:=hide r;have H2:=hide u;clear j i x W b r u);go_wp2;go_ret;have R:=G _ _ 0 Z.o H2.o;rw[DN]at R;refine⟨rfl, .slice (some (U g 0)) (st.out.length+ro) F,?_⟩;rw[<-D.o];exact R
def Gy (d f base cap k off m:Nat)(st:iH)(w:aH)(h:Dec w d f base st)(I:1<=m)(J:m<=1000000)(A:m<=cap)(c:st.room=0)(hk:Small st):Calls prog 190 #[.pointer (some (U d 1)), .slice (some (U k off)) m cap] w fun e w'=>e= .returned (V 11)/\Dec w' d f base st/\dH d w st.v w' st.v:=by
 obtain⟨_,c1,c2,_,_,_,_,_,_,_,_,c3⟩:=h.cell;have f1:=h.free 1;have f2:=h.free 2;have Q:=h.free 3;have u:=hk.fresh;have H:=hk.out;have i:∀n,Dec ((((w.setCell (U d 1) st.v).setCell (U d 2) (V st.fresh)).setCell (U d 3) (V 0)).drewN n) d f base st/\dH d w st.v ((((w.setCell (U d 1) st.v).setCell (U d 2) (V st.fresh)).setCell (U d 3) (V 0)).drewN n) st.v:=fun n=>
  ⟨(((h.set (st':=st) 1 st.v (by simp[iH.cells]) rfl rfl).set (st':=st) 2 _ (by simp[iH.cells]) rfl rfl).set (st':=st) 3 (V 0) (by simp[iH.cells,c]) rfl rfl).other rfl (fun _ _=>rfl) (aS _),⟨((((aU _ w).setCell (p:=(U d 1)) (.inl rfl) _).setCell (p:=(U d 2)) (.inl rfl) _).setCell (p:=(U d 3)) (.inl rfl) _).drewN n,fun _ h=> .inl h⟩⟩
 rw[c]at c2;have C:(0:Int)<(m:Int):=by omega
 obtain⟨fr,j⟩:=aP st.fresh;rw[<-j]at c3 u i;obtain⟨G,⟨l,hn⟩|⟨g,o,D,l,R,hh,K,F,r,x⟩⟩:=h.own
 ·rw[l]at c1;clear h c hn hk j;go_enter func190,ntmps190;go_wp2;go_region;go_wp2;go_ret;rw[<-l];exact⟨rfl,i _⟩
 ·rw[l]at c1;obtain⟨P,hi,M,y,N⟩:=eD info5;generalize st.out.length=n at*;clear h c G hh r x hk j;go_enter func190,ntmps190;go_wp2;have L:∀(W:aH) (a b:Nat),W.setCells a b []=W:=fun _ _ _=>rfl;go_region_law (refine step_append_room rfl (.tmp 17) (.tmp 20) 31 rfl 5 P 1 underlying31 hi y g 0 n o (by simp[Act.eval]) (U k off) 0 cap [] (by simp[Act.eval]) rfl (by simp) (by simp) (by omega) (by simp) ?_);go_wp2;go_ret;rw[<-l];exact⟨rfl,i _⟩
def Xr {c:Nat}(a:w.cell? (U k 0)=some (.int .u8 (c:Nat))):nI w k 0 [c]:=fun i hi=>by
 have:i=0:=by simp at hi;omega
 subst this
 exact a
def Oy (d f base c cap k:Nat)(st:iH)(w:aH)(h:Dec w d f base st)(i:w.cell? (U k 0)=some (.int .u8 (c:Nat)))(a:0<st.room)(hk:Small st)(b:1<=cap):Calls prog 190 #[.pointer (some (U d 1)), .slice (some (U k 0)) 1 cap] w fun e w'=>e= .returned (V 0)/\∃v',Dec w' d f base (st.add v' [c])/\dH d w st.v w' v':=Em d f base cap k 0 1 [c] st w h (Xr i) rfl (by omega) (by omega) b a hk
def XM (d f base cap k:Nat)(st:iH)(w:aH)(h:Dec w d f base st)(a:st.room=0)(hk:Small st)(b:1<=cap):Calls prog 190 #[.pointer (some (U d 1)), .slice (some (U k 0)) 1 cap] w fun e w'=>e= .returned (V 11)/\Dec w' d f base st/\dH d w st.v w' st.v:=Gy d f base cap k 0 1 st w h (by omega) (by omega) b a hk
def _root_.Go.dM.iH.ended (st:iH):iH:={ st with place:=if st.last then 3 else 0 }
def endPos (st:iH)(p:Nat):Nat:=if st.last then(p+7)/8*8 else p
abbrev mF (w:aH)(d f base g off cap z:Nat)(B:aD)(st:iH)(p:Nat):Prop:=On w d f base g off cap z 128 91 5 B st p
def JI (d f base g off cap z p:Nat)(B:aD)(st:iH)(w:aH)(h:mF w d f base g off cap z B st p)(hp:p<4611686018427387000):Calls prog 189 #[E d] w fun e w'=>e= .returned (V 0)/\mF w' d f base g off cap z B st.ended (endPos st p)/\fC d f w st.v w' st.v:=by
 obtain⟨l,_,_,c3,c4,_⟩:=h.dec.cell;have m:=h.dec.free 4;have c:mF (w.setCell (U d 4) (V 0)) d f base g off cap z B { st with place:=0 } p:=h.set 4 _ rfl rfl rfl;rcases Bool.eq_false_or_eq_true st.last with a|a
 ·rw[a]at c4;go_enter func189,ntmps189;go_wp2_with fail;apply(uW f p _ _ c.feed (by omega)).mono;rintro e w1 ⟨rfl,b⟩;have i:=c.fed b;obtain⟨_,_,_,o,_⟩:=i.dec.cell;have j:=i.dec.free 4;go_wp2_with fail;go_ret;refine⟨rfl,?_,?_⟩
  ·rw[iH.ended,endPos,aA a,aA a];exact i.set 4 _ (by simp[iH.cells]) rfl rfl
  ·exact((fC.setCell d f w st.v 4 _).trans (fC.fed b)).trans (fC.setCell d f w1 st.v 4 _)
 ·rw[a]at c4;go_enter func189,ntmps189;go_wp2_with fail;go_ret;refine⟨rfl,?_,fC.setCell d f w st.v 4 _⟩;have a:¬st.last=true:=by rw[a];simp
  rw[iH.ended,endPos,aB a,aB a];exact c
def R9 (d f base g off cap z p:Nat)(B:aD)(st:iH)(w:aH)(h:mF w d f base g off cap z B st p)(hp:p<4611686018427387000)(b:st.left=0):Calls prog 173 #[E d] w fun e w'=>e= .returned (V 0)/\mF w' d f base g off cap z B st.ended (endPos st p)/\fC d f w st.v w' st.v:=by obtain⟨j,_,_,c3,c4,a,_⟩:=h.dec.cell;rw[b]at a;go_enter func173,ntmps173;go_wp2_with fail;apply(JI d f base g off cap z p B st w h hp).mono;rintro e w1 ⟨rfl,c,i⟩;go_wp2_with fail;go_ret;exact⟨rfl,c,i⟩
def NV (d f base g off cap z p:Nat)(B:aD)(st:iH)(w:aH)(h:mF w d f base g off cap z B st p)(hp:p+8<=8*B.length)(H:0<st.left)(I:st.left<=65535)(hk:Small st)(C:0<st.room):Calls prog 173 #[E d] w fun e w'=>e= .returned (V 0)/\∃v',mF w' d f base g off cap z B (iH.add { st with left:=st.left-1 } v' [aG B p 8]) (p+8)/\fC d f w st.v w' v':=by
 obtain⟨F,_,_,c3,c4,G,_⟩:=h.dec.cell;have b:=bO B p 8;go_enter func173,ntmps173;go_wp2_with fail;apply(dO f g off cap z p 8 B w h.feed h.src h.af9.f (by omega) hp).mono;rintro e w1 ⟨rfl,a⟩;have i:=h.fed a;obtain⟨J,_,_,K,L,M,_⟩:=i.dec.cell;have D:=i.dec.free 6;obtain⟨q,m⟩:=aP (aG B p 8);rw[<-m]at b|-
 have y:=hide m;clear m;go_wp2_with fail;have r:mF ((w1.setCell (U d 6) (V ((st.left:Int)-1))).alloc (.cells #[.int .u8 (q:Nat)] 5)) d f base g off cap z B { st with left:=st.left-1 } (p+8):=by
  have e:(st.left:Int)-1=((st.left-1:Nat):Int):=by omega
  rw[e];exact(i.set (st':={ st with left:=st.left-1 }) 6 _ (by simp[iH.cells]) rfl rfl).step0 ((aU _ _).alloc _)
 have j:((w1.setCell (U d 6) (V ((st.left:Int)-1))).alloc (.cells #[.int .u8 (q:Nat)] 5)).cell? (U w1.heap.size 0)=some (.int .u8 (q:Nat)):=by
  have:=aR (w1.setCell (U d 6) (V ((st.left:Int)-1))) (.cells #[.int .u8 (q:Nat)] 5);have e:(w1.setCell (U d 6) (V ((st.left:Int)-1))).heap.size=w1.heap.size:=by simp[World.setCell]
  rw[e]at this;exact jO this
 have l:fC d f w st.v ((w1.setCell (U d 6) (V ((st.left:Int)-1))).alloc (.cells #[.int .u8 (q:Nat)] 5)) st.v:=
  ((fC.fed a).trans (fC.setCell d f w1 st.v 6 _)).alloc _
 generalize(w1.setCell (U d 6) (V ((st.left:Int)-1))).alloc (.cells #[.int .u8 (q:Nat)] 5)=w2 at*;apply(Oy d f base q 1 w1.heap.size _ w2 r.dec j C ⟨hk.room,hk.fresh,hk.out⟩ (by omega)).mono;rintro e w3 ⟨rfl,v',A,c⟩;have u:=hide (r.put A c);have x:=hide (l.trans (fC.xH c));go_wp2_with fail;go_ret;exact⟨rfl,v',by rw[<-y.o];exact u.o,x.o⟩
def NQ (d f base g off cap z p:Nat)(B:aD)(st:iH)(w:aH)(h:mF w d f base g off cap z B st p)(hp:p+8<=8*B.length)(H:0<st.left)(I:st.left<=65535)(hk:Small st)(A:st.room=0):Calls prog 173 #[E d] w fun e w'=>e= .returned (V 11)/\mF w' d f base g off cap z B { st with left:=st.left-1 } (p+8)/\fC d f w st.v w' st.v:=by
 obtain⟨F,_,_,c3,c4,G,_⟩:=h.dec.cell;have b:=bO B p 8;go_enter func173,ntmps173;go_wp2_with fail;apply(dO f g off cap z p 8 B w h.feed h.src h.af9.f (by omega) hp).mono;rintro e w1 ⟨rfl,a⟩;have i:=h.fed a;obtain⟨J,_,_,K,L,M,_⟩:=i.dec.cell;have C:=i.dec.free 6;obtain⟨q,l⟩:=aP (aG B p 8);rw[<-l]at b|-
 have D:=hide l;clear l;go_wp2_with fail;have m:mF ((w1.setCell (U d 6) (V ((st.left:Int)-1))).alloc (.cells #[.int .u8 (q:Nat)] 5)) d f base g off cap z B { st with left:=st.left-1 } (p+8):=by
  have e:(st.left:Int)-1=((st.left-1:Nat):Int):=by omega
  rw[e];exact(i.set (st':={ st with left:=st.left-1 }) 6 _ (by simp[iH.cells]) rfl rfl).step0 ((aU _ _).alloc _)
 have y:((w1.setCell (U d 6) (V ((st.left:Int)-1))).alloc (.cells #[.int .u8 (q:Nat)] 5)).cell? (U w1.heap.size 0)=some (.int .u8 (q:Nat)):=by
  have:=aR (w1.setCell (U d 6) (V ((st.left:Int)-1))) (.cells #[.int .u8 (q:Nat)] 5);have e:(w1.setCell (U d 6) (V ((st.left:Int)-1))).heap.size=w1.heap.size:=by simp[World.setCell]
  rw[e]at this;exact jO this
 have j:fC d f w st.v ((w1.setCell (U d 6) (V ((st.left:Int)-1))).alloc (.cells #[.int .u8 (q:Nat)] 5)) st.v:=
  ((fC.fed a).trans (fC.setCell d f w1 st.v 6 _)).alloc _
 generalize(w1.setCell (U d 6) (V ((st.left:Int)-1))).alloc (.cells #[.int .u8 (q:Nat)] 5)=w2 at*;apply(XM d f base 1 w1.heap.size _ w2 m.dec A ⟨hk.room,hk.fresh,hk.out⟩ (by omega)).mono;rintro e w3 ⟨rfl,x,c⟩;have r:=hide (m.put x c);have u:=hide (j.trans (fC.xH c));go_wp2_with fail;go_ret;exact⟨rfl,r.o,u.o⟩
def VW (d f base g off cap z p q n:Nat)(B:aD)(st:iH)(w:aH)(h:mF w d f base g off cap z B st p)(m:q=(p+7)/8*8)(hp:q+32<=8*B.length)(hn:aG B q 16=n)(u:aG B (q+16) 16=65535-n)(y:n<=65535):Calls prog 193 #[E d] w fun e w'=>e= .returned (V 0)/\mF w' d f base g off cap z B { st with left:=n,place:=1 } (q+32)/\fC d f w st.v w' st.v:=by
 obtain⟨F,_,_,c3,c4,G,_⟩:=h.dec.cell;have x:=h.src.much;have C:p<=q:=by have:=m;omega
 go_enter func193,ntmps193;go_wp2_with fail;apply(uW f p _ w h.feed (by omega)).mono;rintro e w1 ⟨rfl,a⟩;rw[<-m]at a;have b:=h.fed a;obtain⟨D,_⟩:=b.dec.cell;go_wp2_with fail;apply(dO f g off cap z q 16 B w1 b.feed b.src b.af9.f (by omega) (by omega)).mono;rintro e w2 ⟨rfl,i⟩;rw[hn];have c:=b.fed i;obtain⟨b0,_⟩:=c.dec.cell;go_wp2_with fail;apply(dO f g off cap z (q+16) 16 B w2 c.feed c.src c.af9.f (by omega) (by omega)).mono;rintro e w3 ⟨rfl,j⟩;rw[u];have l:=c.fed j;obtain⟨_,_,_,H,_,I,_⟩:=l.dec.cell;have o:=l.dec.free 4;have r:=l.dec.free 6;have A:(((65535-n:Nat):Int) !=(65535:Int)-(n:Int))=false:=by rw[tY];omega
 go_wp2_with fail;go_ret;refine⟨rfl,?_,?_⟩
 ·exact(l.set (st':={ st with left:=n }) 6 _ (by simp[iH.cells]) rfl rfl).set 4 _ (by simp[iH.cells]) rfl rfl
 ·exact((((fC.fed a).trans (fC.fed i)).trans (fC.fed j)).trans (fC.setCell d f w3 st.v 6 _)).trans (fC.setCell d f _ st.v 4 _)
open Go.Maps
structure Ar (w:aH)(f mb longest:Nat)(M:Tab)(B:aD)(p k s:Nat):Prop where
 tab:TabAt w mb M
 ne:mb≠f
 one:1<=k
 le:k<=longest
 most:longest<=15
 there:p+k<=8*B.length
 is:M (bU B p k)=some s
 no:∀j,1<=j->j<k->M (bU B p j)=none
def Zq (f g off cap z p k mb longest s:Nat)(M:Tab)(B:aD)(w:aH)(b:w.heap[f]? =some (.cells #[.slice (bE g off B.length) B.length cap,V p,V z] 91 (0,0)))(c:ay5 w g off B)(a:g≠f)(h:Ar w f mb longest M B p k s)(hs:s<100000):Calls prog 191 #[.agg #[.map (some mb),V longest],E f] w fun e w'=>e= .returned (.tuple #[V s,V 0])/\lV f w w' (p+k):=ar3 f g off cap z p k mb longest s M B w b c a h.tab h.ne h.one h.le h.most h.there h.is h.no hs
def Bw (d f base g off cap z p k mb c:Nat)(M:Tab)(B:aD)(st:iH)(w:aH)(h:mF w d f base g off cap z B st p)(u:st.sm= .map (some mb))(a:Ar w f mb st.sl M B p k c)(N:c<=256)(hk:Small st)(K:0<st.room)(J:c<256):Calls prog 174 #[E d] w fun e w'=>e= .returned (V 0)/\∃v',mF w' d f base g off cap z B (st.add v' [c]) (p+k)/\fC d f w st.v w' v':=by
 obtain⟨F,_,_,c3,c4,L,y,G,_⟩:=h.dec.cell;rw[u]at y;have i:=Zq f g off cap z p k mb st.sl c M B w.drew h.feed (h.src.step ((aU (fun _=>False) w).drew) (fun x=>x)) h.af9.f ⟨a.tab.of rfl,a.ne,a.one,a.le,a.most,a.there,a.is,a.no⟩ (by omega);go_enter func174,ntmps174;go_wp2_with fail
 go_region_held3 (fun w'=>w'.cell? (U d 0)=some (E f)/\w'.cell? (U d 7)=some (.map (some mb))/\w'.cell? (U d 8)=some (V st.sl)) (go_keep)
  (first|(go_at_call 191;apply i.mono;rintro e w1 ⟨rfl,b⟩;have P:=b.step.cell (p:=(U d 0)) F h.dec.ne;have Q:=b.step.cell (p:=(U d 7)) y h.dec.ne;have R:=b.step.cell (p:=(U d 8)) G h.dec.ne))
 have H:=(h.step0 ((aU (fun _=>False) w).drew)).fed b;have m:fC d f w st.v w1 st.v:=(fC.step0 ((aU (fun _=>False) w).drew)).trans (fC.fed b);go_wp2_with fail;have A:mF (w1.alloc (.cells #[.int .u8 (c:Nat)] 5)) d f base g off cap z B st (p+k):=H.step0 ((aU _ _).alloc _);have l:(w1.alloc (.cells #[.int .u8 (c:Nat)] 5)).cell? (U w1.heap.size 0)=some (.int .u8 (c:Nat)):=jO (aR _ _);have r:=m.alloc (.cells #[.int .u8 (c:Nat)] 5);generalize w1.alloc (.cells #[.int .u8 (c:Nat)] 5)=w2 at*;apply(Oy d f base c 1 w1.heap.size _ w2 A.dec l K ⟨hk.room,hk.fresh,hk.out⟩ (by omega)).mono;rintro e w3 ⟨rfl,v',I,j⟩;have C:=hide (A.put I j);have D:=hide (r.trans (fC.xH j));go_wp2_with fail;go_ret;exact⟨rfl,v',C.o,D.o⟩
def Ei (d f base g off cap z p k mb c:Nat)(M:Tab)(B:aD)(st:iH)(w:aH)(h:mF w d f base g off cap z B st p)(r:st.sm= .map (some mb))(a:Ar w f mb st.sl M B p k c)(N:c<=256)(hk:Small st)(K:st.room=0)(I:c<256):Calls prog 174 #[E d] w fun e w'=>e= .returned (V 11)/\mF w' d f base g off cap z B st (p+k)/\fC d f w st.v w' st.v:=by
 obtain⟨D,_,_,c3,c4,L,u,F,_⟩:=h.dec.cell;rw[r]at u;have i:=Zq f g off cap z p k mb st.sl c M B w.drew h.feed (h.src.step ((aU (fun _=>False) w).drew) (fun x=>x)) h.af9.f ⟨a.tab.of rfl,a.ne,a.one,a.le,a.most,a.there,a.is,a.no⟩ (by omega);go_enter func174,ntmps174;go_wp2_with fail
 go_region_held3 (fun w'=>w'.cell? (U d 0)=some (E f)/\w'.cell? (U d 7)=some (.map (some mb))/\w'.cell? (U d 8)=some (V st.sl)) (go_keep)
  (first|(go_at_call 191;apply i.mono;rintro e w1 ⟨rfl,b⟩;have P:=b.step.cell (p:=(U d 0)) D h.dec.ne;have Q:=b.step.cell (p:=(U d 7)) u h.dec.ne;have R:=b.step.cell (p:=(U d 8)) F h.dec.ne))
 have G:=(h.step0 ((aU (fun _=>False) w).drew)).fed b;have l:fC d f w st.v w1 st.v:=(fC.step0 ((aU (fun _=>False) w).drew)).trans (fC.fed b);go_wp2_with fail;have y:mF (w1.alloc (.cells #[.int .u8 (c:Nat)] 5)) d f base g off cap z B st (p+k):=G.step0 ((aU _ _).alloc _);have J:(w1.alloc (.cells #[.int .u8 (c:Nat)] 5)).cell? (U w1.heap.size 0)=some (.int .u8 (c:Nat)):=jO (aR _ _);have m:=l.alloc (.cells #[.int .u8 (c:Nat)] 5);generalize w1.alloc (.cells #[.int .u8 (c:Nat)] 5)=w2 at*;apply(XM d f base 1 w1.heap.size _ w2 y.dec K ⟨hk.room,hk.fresh,hk.out⟩ (by omega)).mono;rintro e w3 ⟨rfl,H,j⟩;have A:=hide (y.put H j);have C:=hide (m.trans (fC.xH j));go_wp2_with fail;go_ret;exact⟨rfl,A.o,C.o⟩
def Oe (d f base g off cap z p k mb c:Nat)(M:Tab)(B:aD)(st:iH)(w:aH)(h:mF w d f base g off cap z B st p)(m:st.sm= .map (some mb))(a:Ar w f mb st.sl M B p k c)(C:c<=256)(y:c=256):Calls prog 174 #[E d] w fun e w'=>e= .returned (V 0)/\mF w' d f base g off cap z B st.ended (endPos st (p+k))/\fC d f w st.v w' st.v:=by
 obtain⟨D,_,_,c3,c4,N,u,F,_⟩:=h.dec.cell;rw[m]at u;have i:=Zq f g off cap z p k mb st.sl c M B w.drew h.feed (h.src.step ((aU (fun _=>False) w).drew) (fun x=>x)) h.af9.f ⟨a.tab.of rfl,a.ne,a.one,a.le,a.most,a.there,a.is,a.no⟩ (by omega);have j:p+k<=8*B.length:=a.there;have K:=h.src.much;go_enter func174,ntmps174;go_wp2_with fail
 go_region_held3 (fun w'=>w'.cell? (U d 0)=some (E f)/\w'.cell? (U d 7)=some (.map (some mb))/\w'.cell? (U d 8)=some (V st.sl)) (go_keep)
  (first|(go_at_call 191;apply i.mono;rintro e w1 ⟨rfl,b⟩;have P:=b.step.cell (p:=(U d 0)) D h.dec.ne;have Q:=b.step.cell (p:=(U d 7)) u h.dec.ne;have R:=b.step.cell (p:=(U d 8)) F h.dec.ne))
 have L:=j;have G:=(h.step0 ((aU (fun _=>False) w).drew)).fed b;have l:fC d f w st.v w1 st.v:=(fC.step0 ((aU (fun _=>False) w).drew)).trans (fC.fed b);have I:((c:Int)==256)=true:=dI.2 (by have:=y;omega);have J:¬(c:Int)<256:=by have:=y;omega
 go_wp2_with fail;apply(JI d f base g off cap z (p+k) B st w1 G (by omega)).mono;rintro e w3 ⟨rfl,H,r⟩;have A:=hide (l.trans r);go_wp2_with fail;go_ret;exact⟨rfl,H,A.o⟩
def info3:(prog.info? 3).map (fun i=>(i.zero,i.size,i.bytes))=some (some (V 0),1,8):=by kernel_rfl
structure vS (longest:Nat)(M:Tab)(B:aD)(p q s:Nat):Prop where
 lt:p<q
 le:q-p<=longest
 there:q<=8*B.length
 is:M (bU B p (q-p))=some s
 no:∀j,1<=j->j<q-p->M (bU B p j)=none
def vS.aB7 {mb longest:Nat}{M:Tab}(h:vS longest M B p q s)(c:TabAt w mb M)(a:mb≠f)(b:longest<=15):Ar w f mb longest M B p (q-p) s:=⟨c,a,by have:=h.lt;omega,h.le,b,by have:=h.lt;have:=h.there;omega,h.is,h.no⟩
abbrev TJ (L:aD):List aK:=L.map fun c=>V (c:Nat)
def Xp:aK->Nat| .slice _ n _=>n|_=>0
end Go.Proofs.YtbpahojchgpdnaaGreatDoor
namespace Go.dM
open Go Go.RowKit Go.Proofs.YtbpahojchgpdnaaGreatDoor
variable {w w' w1:aH} {base cap d e f g k n off p q q' s t taken td tf z:Nat} {B out xs:aD} {v v':aK}
inductive R (α:Type) where
 |ok (a:α) (q:Nat)
 |no (e:Nat)
 |miss
def jN (D:d9)(B:aD)(p:Nat):Nat->Nat->R Nat
 |0,_=> .no 9
 |r+1,j=>if p+j<8*B.length then(match D.tab (bU B p (j+1))with|some s=> .ok s (p+(j+1))|none=>jN D B p r (j+1))else .miss
def lC (D:d9)(B:aD)(p:Nat):R Nat:=jN D B p D.longest 0
def fO (B:aD)(q s:Nat)(row:aD):R (Nat×Nat):=
 if s<16 then .ok (s,1) q
 else if s=16 then(if q+2<=8*B.length then .ok (row[row.length-1]?.getD 0,aG B q 2+3) (q+2)else .miss)
 else if s=17 then(if q+3<=8*B.length then .ok (0,aG B q 3+3) (q+3)else .miss)
 else(if q+7<=8*B.length then .ok (0,aG B q 7+11) (q+7)else .miss)
def iC (D:d9)(B:aD)(n:Nat):Nat->Nat->aD->R (aD)
 |0,p,row=> .ok row p
 |k+1,p,row=>
  if n<=row.length then .ok row p else
  match lC D B p with
  | .no e=> .no e
  | .miss=> .miss
  | .ok s q=>
   if s=16/\row.length=0 then .no 8 else
   match fO B q s row with
   | .no e=> .no e
   | .miss=> .miss
   | .ok lt q'=>if n<row.length+lt.2 then .no 8 else iC D B n k q' (row++List.replicate lt.2 lt.1)
def NM (D:d9)(B:aD)(n p:Nat):R (aD):=iC D B n n p []
def p9 (L:aD):Bool:=eG L L.length==0||fF L
def pI (row:aD)(a q:Nat):R (aD×aD):=
 if 0<row[256]?.getD 0/\fF (row.take a)=true/\p9 (row.drop a)=true then .ok (row.take a,row.drop a) q else .no 7
def bW (B:aD)(p:Nat):R (aD×aD):=
 if p+14<=8*B.length then
  let a:=aG B p 5+257
  let b:=aG B (p+5) 5+1
  let c:=aG B (p+10) 4+4
  if 286<a\/30<b then .no 7
  else if p+14+3*c<=8*B.length then
   (if fF (bD B (p+14) c)=true then
    (match NM (aI (bD B (p+14) c)) B (a+b) (p+14+3*c)with
    | .ok row q=>pI row a q
    | .no e=> .no e
    | .miss=> .miss)
   else .no 7)
  else .miss
 else .miss
structure GS where
 out:aD
 most:Nat
 place:Nat
 last:Bool
 left:Nat
 ls:aD
 ld:aD
 p:Nat
 taken:Nat:=0
def GS.ended (s:GS)(p:Nat):GS:={ s with place:=if s.last then 3 else 0,p:=if s.last then(p+7)/8*8 else p }
inductive G where
 |go (s:GS)
 |no (e:Nat) (out:aD)
 |miss
def gK:aD:=List.replicate 144 8++List.replicate 112 9++List.replicate 24 7++List.replicate 8 8
def fM:aD:=List.replicate 32 5
def mM (s:GS)(xs:aD)(p:Nat):G:=
 if s.out.length+xs.length<=s.most then .go { s with out:=s.out++xs,p:=p }else .no 11 (s.out++xs.take (s.most-s.out.length))
def kL (B:aD)(s:GS):G:=
 if s.p+3<=8*B.length then
  if aG B (s.p+1) 2=0 then
   (if(s.p+3+7)/8*8+32<=8*B.length then
    (if aG B ((s.p+3+7)/8*8+16) 16=65535-aG B ((s.p+3+7)/8*8) 16 then
     .go { s with last:=bK B s.p==1,left:=aG B ((s.p+3+7)/8*8) 16,place:=1,p:=(s.p+3+7)/8*8+32 }
    else .no 6 s.out)
   else .miss)
  else if aG B (s.p+1) 2=1 then .go { s with last:=bK B s.p==1,place:=2,ls:=gK,ld:=fM,p:=s.p+3 }
  else if aG B (s.p+1) 2=2 then
   (match bW B (s.p+3)with
   | .ok ab q=> .go { s with last:=bK B s.p==1,place:=2,ls:=ab.1,ld:=ab.2,p:=q }
   | .no e=> .no e s.out
   | .miss=> .miss)
  else .no 5 s.out
 else .miss
def nO (B:aD)(s:GS):G:=
 if s.left=0 then .go (s.ended s.p)
 else if s.p+8<=8*B.length then mM { s with left:=s.left-1 } [aG B s.p 8] (s.p+8)else .miss
def eF (B:aD)(q c:Nat):R Nat:=
 if 285<c then .no 9
 else if c=285 then .ok 258 q
 else if c<265 then .ok (c-257+3) q
 else if q+(c-261)/4<=8*B.length then .ok ((4+(c-265)%4)*2^((c-261)/4)+3+aG B q ((c-261)/4)) (q+(c-261)/4)
 else .miss
def iQ (D:d9)(B:aD)(q:Nat):R Nat:=
 match lC D B q with
 | .no e=> .no e
 | .miss=> .miss
 | .ok s q'=>
  if 30<=s then .no 9
  else if s<4 then .ok (s+1) q'
  else if q'+(s/2-1)<=8*B.length then .ok ((2+s%2)*2^(s/2-1)+1+aG B q' (s/2-1)) (q'+(s/2-1))
  else .miss
def copied (out:aD)(dist len:Nat):aD:=(List.range len).map fun i=>out[out.length-dist+i%dist]?.getD 0
def gCopy (B:aD)(s:GS)(c q:Nat):G:=
 match eF B q c with
 | .no e=> .no e s.out
 | .miss=> .miss
 | .ok n q1=>
  match iQ (aI s.ld) B q1 with
  | .no e=> .no e s.out
  | .miss=> .miss
  | .ok dist q2=>if s.out.length<dist then .no 10 s.out else mM s (copied s.out dist n) q2
def uF (B:aD)(s:GS):G:=
 match lC (aI s.ls) B s.p with
 | .no e=> .no e s.out
 | .miss=> .miss
 | .ok c q=>if c<256 then mM s [c] q else if c=256 then .go (s.ended q)else gCopy B s c q
def bM (B:aD)(s:GS):G:=if s.place=1 then nO B s else if s.place=2 then uF B s else kL B s
inductive eZ (B:aD):Nat->GS->Nat->aD->Nat->Prop
 |done (s:GS) (h:s.place=3):eZ B 0 s 0 s.out s.p
 |no (s:GS) (e:Nat) (out:aD) (h3:s.place≠3) (h:bM B s= .no e out):eZ B 1 s e out 0
 |miss (s:GS) (h3:s.place≠3) (h:bM B s= .miss):eZ B 1 s 3 s.out 0
 |go (n:Nat) (s s1:GS) (e:Nat) (out:aD) (q:Nat) (h3:s.place≠3) (h:bM B s= .go s1) (k:eZ B n s1 e out q):eZ B (n+1) s e out q
def ab6 (D:d9)(B:aD)(p:Nat):∀r j s q,jN D B p r j= .ok s q->p+j<q/\q<=8*B.length/\q<=p+j+r/\D.tab (bU B p (q-p))=some s:=by
 intro r;induction r with
 |zero=>intro j s q h;simp[jN]at h
 |succ r ih=>
  intro j s q h;rw[jN]at h;split at h
  ·rename_i a;split at h
   ·rename_i s' hs;simp only[R.ok.injEq]at h;obtain⟨rfl,rfl⟩:=h;refine⟨by omega,by omega,by omega,?_⟩;rw[show p+(j+1)-p=j+1 by omega];exact hs
   ·have:=ih (j+1) s q h;exact⟨by omega,by omega,by omega,this.2.2.2⟩
  ·simp at h
def oV {D:d9}(h:lC D B p= .ok s q):p<q/\q<=8*B.length/\q<=p+D.longest/\D.tab (bU B p (q-p))=some s:=by have:=ab6 D B p D.longest 0 s q h;exact⟨by omega,by omega,by omega,this.2.2.2⟩
def TW {row:aD}{lt:Nat×Nat}(h:fO B q s row= .ok lt q')(a:q<=8*B.length):q<=q'/\q'<=8*B.length/\1<=lt.2:=by
 unfold fO at h;split at h
 ·simp only[R.ok.injEq]at h;obtain⟨rfl,rfl⟩:=h;exact⟨aS _,a,aS _⟩
 ·split at h
  ·split at h
   ·simp only[R.ok.injEq]at h;obtain⟨rfl,rfl⟩:=h;exact⟨by omega,by omega,by simp⟩
   ·simp at h
  ·split at h;all_goals
    split at h
    ·simp only[R.ok.injEq]at h;obtain⟨rfl,rfl⟩:=h;exact⟨by omega,by omega,by simp⟩
    ·simp at h
def Zk (D:d9)(B:aD)(n:Nat):∀k p row r q,p<=8*B.length->iC D B n k p row= .ok r q->p<=q/\q<=8*B.length:=by
 intro k;induction k with
 |zero=>intro p row r q hp h;simp only[iC,R.ok.injEq]at h;obtain⟨rfl,rfl⟩:=h;exact⟨aS _,hp⟩
 |succ k ih=>
  intro p row r q hp h;rw[iC]at h;split at h
  ·simp only[R.ok.injEq]at h;obtain⟨rfl,rfl⟩:=h;exact⟨aS _,hp⟩
  ·split at h
   ·simp at h
   ·simp at h
   ·rename_i s i hs;have b:=oV hs;split at h
    ·simp at h
    ·split at h
     ·simp at h
     ·simp at h
     ·rename_i lt j a;have c:=TW a (by omega);split at h
      ·simp at h
      ·have:=ih _ _ _ _ (by omega) h;exact⟨by omega,this.2⟩
def SI {a:aD×aD}(h:bW B p= .ok a q):p<q/\q<=8*B.length:=by
 unfold bW at h;split at h
 ·dsimp only at h;split at h
  ·simp at h
  ·split at h
   ·split at h
    ·split at h
     ·rename_i row i b;have c:=Zk _ _ _ _ _ _ _ _ (by omega) b;unfold pI at h;split at h
      ·simp only[R.ok.injEq]at h;obtain⟨_,rfl⟩:=h;exact⟨by omega,by omega⟩
      ·simp at h
     ·simp at h
     ·simp at h
    ·simp at h
   ·simp at h
 ·simp at h
def FM {c:Nat}(h:eF B q c= .ok n q')(a:q<=8*B.length):q<=q'/\q'<=8*B.length:=by
 unfold eF at h;split at h
 ·simp at h
 ·split at h
  ·simp only[R.ok.injEq]at h;obtain⟨_,rfl⟩:=h;exact⟨by omega,by omega⟩
  ·split at h
   ·simp only[R.ok.injEq]at h;obtain⟨_,rfl⟩:=h;exact⟨by omega,by omega⟩
   ·split at h
    ·simp only[R.ok.injEq]at h;obtain⟨_,rfl⟩:=h;exact⟨by omega,by omega⟩
    ·simp at h
def RJ {D:d9}(h:iQ D B q= .ok n q'):q<=q'/\q'<=8*B.length:=by
 unfold iQ at h;split at h
 ·simp at h
 ·simp at h
 ·rename_i s b hs;have a:=oV hs;split at h
  ·simp at h
  ·split at h
   ·simp only[R.ok.injEq]at h;obtain⟨_,rfl⟩:=h;exact⟨by omega,by omega⟩
   ·split at h
    ·simp only[R.ok.injEq]at h;obtain⟨_,rfl⟩:=h;exact⟨by omega,by omega⟩
    ·simp at h
def xS (B:aD)(s:GS):Nat:=2*(8*B.length-s.p)+(if s.place=1 then 1 else 0)
def AV (s:GS)(p n:Nat)(h:p<=8*n):p<=(s.ended p).p/\(s.ended p).p<=8*n/\(s.ended p).place≠1:=by unfold GS.ended;dsimp only;split<;>refine⟨by omega,by omega,by omega⟩
def E9 {s s':GS}(h:mM s xs p= .go s'):s'={ s with out:=s.out++xs,p:=p }/\s.out.length+xs.length<=s.most:=by
 unfold mM at h;split at h
 ·simp only[G.go.injEq]at h;exact⟨h.symm,by omega⟩
 ·simp at h
def Im {s s':GS}(hp:s.p<=8*B.length)(h:bM B s= .go s'):xS B s'<xS B s/\s'.p<=8*B.length:=by
 unfold bM at h;split at h
 ·rename_i a;unfold nO at h;split at h
  ·simp only[G.go.injEq]at h;subst h;have:=AV s s.p _ hp;unfold xS;rw[aA a,aB this.2.2];exact⟨by omega,this.2.1⟩
  ·split at h
   ·obtain⟨rfl,_⟩:=E9 h;unfold xS;dsimp only;exact⟨by split<;>omega,by omega⟩
   ·simp at h
 ·split at h
  ·rename_i a j;unfold uF at h;split at h
   ·simp at h
   ·simp at h
   ·rename_i c q hs;have i:=oV hs;split at h
    ·obtain⟨rfl,_⟩:=E9 h;unfold xS;dsimp only;exact⟨by split<;>omega,by omega⟩
    ·split at h
     ·simp only[G.go.injEq]at h;subst h;have:=AV s q _ i.2.1;unfold xS;rw[aB a,aB this.2.2];exact⟨by omega,this.2.1⟩
     ·unfold gCopy at h;split at h
      ·simp at h
      ·simp at h
      ·rename_i n A o;have u:=FM o i.2.1;split at h
       ·simp at h
       ·simp at h
       ·rename_i b C m;have x:=RJ m;split at h
        ·simp at h
        ·obtain⟨rfl,_⟩:=E9 h;unfold xS;dsimp only;exact⟨by split<;>omega,by omega⟩
  ·rename_i a j;unfold kL at h;unfold xS;rw[aB a];split at h
   ·split at h
    ·split at h
     ·split at h
      ·simp only[G.go.injEq]at h;subst h;dsimp only;exact⟨by simp;omega,by omega⟩
      ·simp at h
     ·simp at h
    ·split at h
     ·simp only[G.go.injEq]at h;subst h;dsimp only;exact⟨by simp;omega,by omega⟩
     ·split at h
      ·split at h
       ·rename_i r q l;have y:=SI l;simp only[G.go.injEq]at h;subst h;dsimp only;exact⟨by simp;omega,by omega⟩
       ·simp at h
       ·simp at h
      ·simp at h
   ·simp at h
def O9 (B:aD):∀k s,s.p<=8*B.length->xS B s<k->∃n e out q,eZ B n s e out q:=by
 intro k;induction k with
 |zero=>intro s _ h;omega
 |succ k ih=>
  intro s hp hk;by_cases a:s.place=3
  ·exact⟨_,_,_,_, .done s a⟩
  ·cases hg:bM B s with
   |go b=>
    have c:=Im hp hg;obtain⟨n,e,out,q,i⟩:=ih b c.2 (by omega);exact⟨_,_,_,_, .go n s b e out q a hg i⟩
   |no e out=>exact⟨_,_,_,_, .no s e out a hg⟩
   |miss=>exact⟨_,_,_,_, .miss s a hg⟩
def eZ.inv {s:GS}(h:eZ B k s e out q):(s.place=3/\e=0/\out=s.out/\q=s.p)\/(s.place≠3/\bM B s= .no e out/\q=0)\/(s.place≠3/\bM B s= .miss/\e=3/\out=s.out/\q=0)\/∃m a,k=m+1/\s.place≠3/\bM B s= .go a/\eZ B m a e out q:=by
 cases h
 ·exact .inl ⟨‹_›,rfl,rfl,rfl⟩
 ·exact .inr (.inl ⟨‹_›,‹_›,rfl⟩)
 ·exact .inr (.inr (.inl ⟨‹_›,‹_›,rfl,rfl,rfl⟩))
 ·exact .inr (.inr (.inr ⟨_,_,rfl,‹_›,‹_›,‹_›⟩))
end Go.dM
namespace Go.dM
variable {w w' w1:aH} {base cap d e f g k n off p q q' s t taken td tf z:Nat} {B out xs:aD} {v v':aK}
def KX {s:GS}(h:s.out.length<=s.most):(∀s',mM s xs p= .go s'->s'.out.length<=s'.most/\s'.most=s.most)/\(∀e out,mM s xs p= .no e out->out.length<=s.most):=by
 constructor
 ·intro s' hp;obtain⟨rfl,a⟩:=E9 hp;exact⟨by dsimp only;rw[aN];exact a,rfl⟩
 ·intro e out hp;unfold mM at hp;split at hp
  ·cases hp
  ·cases hp;rw[aN,dF];omega
def FB {s:GS}(h:s.out.length<=s.most):(∀s',bM B s= .go s'->s'.out.length<=s'.most/\s'.most=s.most)/\(∀e out,bM B s= .no e out->out.length<=s.most):=by
 have a:∀p,(s.ended p).out.length<=(s.ended p).most/\(s.ended p).most=s.most:=fun p=>⟨h,rfl⟩
 unfold bM;split
 ·unfold nO;split
  ·exact⟨fun s' hs=>(by cases hs;exact a _),fun e out hs=>by cases hs⟩
  ·split
   ·exact KX (s:={ s with left:=s.left-1 }) h
   ·exact⟨fun s' hs=>(by cases hs),fun e out hs=>by cases hs⟩
 ·split
  ·unfold uF;split
   ·exact⟨fun s' hs=>(by cases hs),fun e out hs=>by cases hs;exact h⟩
   ·exact⟨fun s' hs=>(by cases hs),fun e out hs=>by cases hs⟩
   ·split
    ·exact KX h
    ·split
     ·exact⟨fun s' hs=>(by cases hs;exact a _),fun e out hs=>by cases hs⟩
     ·unfold gCopy;split
      ·exact⟨fun s' hs=>(by cases hs),fun e out hs=>by cases hs;exact h⟩
      ·exact⟨fun s' hs=>(by cases hs),fun e out hs=>by cases hs⟩
      ·split
       ·exact⟨fun s' hs=>(by cases hs),fun e out hs=>by cases hs;exact h⟩
       ·exact⟨fun s' hs=>(by cases hs),fun e out hs=>by cases hs⟩
       ·split
        ·exact⟨fun s' hs=>(by cases hs),fun e out hs=>by cases hs;exact h⟩
        ·exact KX h
  ·unfold kL;split
   ·split
    ·split
     ·split
      ·exact⟨fun s' hs=>(by cases hs;exact⟨h,rfl⟩),fun e out hs=>by cases hs⟩
      ·exact⟨fun s' hs=>(by cases hs),fun e out hs=>by cases hs;exact h⟩
     ·exact⟨fun s' hs=>(by cases hs),fun e out hs=>by cases hs⟩
    ·split
     ·exact⟨fun s' hs=>(by cases hs;exact⟨h,rfl⟩),fun e out hs=>by cases hs⟩
     ·split
      ·split
       ·exact⟨fun s' hs=>(by cases hs;exact⟨h,rfl⟩),fun e out hs=>by cases hs⟩
       ·exact⟨fun s' hs=>(by cases hs),fun e out hs=>by cases hs;exact h⟩
       ·exact⟨fun s' hs=>(by cases hs),fun e out hs=>by cases hs⟩
      ·exact⟨fun s' hs=>(by cases hs),fun e out hs=>by cases hs;exact h⟩
   ·exact⟨fun s' hs=>(by cases hs),fun e out hs=>by cases hs⟩
def eZ.most {s:GS}(i:eZ B n s e out q)(h:s.out.length<=s.most):out.length<=s.most:=by
 induction i with
 |done s b=>exact h
 |no s e out b a=>exact(FB h).2 e out a
 |miss s b a=>exact h
 |go n s j e out q b a k ih=>
  have c:=(FB h).1 j a;have:=ih c.1;rw[c.2]at this;exact this
end Go.dM
