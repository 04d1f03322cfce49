import Derived.Test.YtbpahojchgpdnaaGreatDoorSortB
import Derived.Test.YtbpahojchgpdnaaGreatDoorFound
set_option maxRecDepth 20000
set_option maxHeartbeats 4000000
set_option linter.all false
namespace Go.dM
variable {w w':aH} {cc g n:Nat} {ss:aD}
def xL:∀(n:Nat) (A B:List Pa),A.length=2*n->pairUp (A++B)=pairUp A++pairUp B
 |0,A,B,h=>by
  have:A=[]:=kP (by omega)
  subst this;simp[pairUp]
 |n+1,A,B,h=>by
  match A,h with
  |x::y::A,h=>
   have ih:=xL n A B (by simp at h;omega)
   simp only[jZ,pairUp,ih]
end Go.dM
namespace Go.Proofs.YtbpahojchgpdnaaGreatDoor
open Go.RowKit Go.Shelf Go.Lib Go.Sort Go.dM Go.Proofs.Tryz
variable {w w':aH} {cc g n:Nat} {ss:aD}
def gG.pt {L:aD}(cap:Nat)(h:gG w g 0 L):Pt.ok w 1 ⟨.slice (some (U g 0)) L.length cap,L.length,L.map fun x=>V (x:Nat)⟩:=by
 refine⟨by simp,fun u a=> ?_,some (U g 0),cap,rfl,fun h=>(by cases h),fun d b j u a=> ?_⟩
 ·simp only[sU]at a;obtain⟨x,_,rfl⟩:=a;rfl
 ·cases b;have c:=(BD.1 a).1;rw[nG]at c;rw[show(Addr.add (U g 0) j)=⟨g,0+j,none⟩ by simp[Addr.add];omega,h j c,<-a];unfold often;rw[kE,bV c];rfl
def gG.D6 {base cap:Nat}{L:aD}(h:w.ownsRow base 3 1 (.slice (some (U g 0)) L.length cap) L.length (L.map fun x=>V (x:Nat))):L.length<=cap/\g<w.heap.size/\gG w g 0 L:=by
 have d:=h;obtain⟨l,⟨a,hn⟩|⟨o,c,e,a,k,hh,b,j,f,m⟩⟩:=h
 ·cases a
 ·cases a;refine⟨b,aO hh,fun i hi=> ?_⟩;rw[dS];have:=d.cells rfl i (V (often L i:Nat)) (by rw[kE,bV hi];simp[often,hi]);rw[show(Addr.add (U g 0) i)=(U g i) by simp[Addr.add];omega]at this;exact this
def Qq (i k j f:Nat)(xs ys:aD)(b:aH)(t:TypeId)(s:gG b i 0 xs)(u:gG b j 0 ys)(v:1<=xs.length)(z:xs.length+ys.length<=1000000):Calls prog 132 #[.slice (some (U b.heap.size 0)) 2 2] (b.alloc (.cells #[.slice (some (U i 0)) xs.length k, .slice (some (U j 0)) ys.length f] t)) fun e w'=>∃m,e= .returned (.slice (some ⟨b.heap.size+1,0,none⟩) (xs.length+ys.length) m)/\xs.length+ys.length<=m/\b.heap.size+1<w'.heap.size/\gG w' (b.heap.size+1) 0 (xs++ys)/\O b w':=by
 have c:O b (b.alloc (.cells #[.slice (some (U i 0)) xs.length k, .slice (some (U j 0)) ys.length f] t)):=(aU _ _).alloc _;have a:kK [⟨.slice (some (U i 0)) xs.length k,xs.length,xs.map fun x=>V (x:Nat)⟩,⟨.slice (some (U j 0)) ys.length f,ys.length,ys.map fun x=>V (x:Nat)⟩] 2=(xs++ys).length:=by simp[kK]
 have l:allM [⟨.slice (some (U i 0)) xs.length k,xs.length,xs.map fun x=>V (x:Nat)⟩,⟨.slice (some (U j 0)) ys.length f,ys.length,ys.map fun x=>V (x:Nat)⟩]=(xs++ys).map fun x=>V (x:Nat):=by simp[allM]
 apply(aj5 b.heap.size 2 2 [⟨.slice (some (U i 0)) xs.length k,xs.length,xs.map fun x=>V (x:Nat)⟩,⟨.slice (some (U j 0)) ys.length f,ys.length,ys.map fun x=>V (x:Nat)⟩] (b.alloc _) rfl (by omega) (by omega) WQ ?cb ?cp ?cr).mono;case cb=>
  intro r p;simp only[fE,wQ,or_false]at p;rcases p with rfl|rfl
  ·exact(s.step c (fun y=>y)).pt k
  ·exact(u.step c (fun y=>y)).pt f
 case cp=>rw[a];simp;omega
 case cr=>rw[a];simp;omega
 rintro e w' ⟨m,rfl,d,o⟩;rw[a,l,oJ]at d;obtain⟨k1,k2,q⟩:=gG.D6 d;rw[aN]at k1;exact⟨m,by rw[a,oJ,aN],k1,k2,q,c.trans o⟩
def al5 {l Q:List Pe}{k m r j c:Nat}{p q:Pe}(h:Q.map Pe.pa=pairUp ((l.take k).map Pe.pa))(hk:k=2*n)(t:k+1<l.length)(i:m=k+1)(e:p=iI l k/\q=iI l m/\cc=p.c+q.c/\p.s.length=r/\q.s.length=j)(hs:ss=p.s++q.s):(Q++[(⟨cc,ss,g,c⟩:Pe)]).map Pe.pa=pairUp ((l.take (k+2)).map Pe.pa):=by
 obtain⟨a,o,b,_,_⟩:=e;have d:l[k]? =some p:=by rw[a];unfold iI;rw[bV (by omega)];rfl
 have f:l[k+1]? =some q:=by rw[o,i];unfold iI;rw[bV (by omega)];rfl
 have e3:l.take (k+2)=l.take k++[p,q]:=by
  rw[show k+2=k+1+1 by omega,jE,jE,d,f];simp
 rw[e3,sS,sS,xL n _ _ (by simp;omega),h,b,hs];rfl
def Zc {l:List Pe}{k:Nat}(hk:k=2*n)(d:l.length<=k+1)(c:k<=l.length):pairUp (l.map Pe.pa)=pairUp ((l.take k).map Pe.pa):=by
 have e:l.map Pe.pa=(l.take k).map Pe.pa++(l.drop k).map Pe.pa:=by rw[<-sS,pJ]
 rw[e,xL n _ _ (by simp;omega)];have a:pairUp ((l.drop k).map Pe.pa)=[]:=by
  have b:(l.drop k).length<=1:=by simp;omega
  match l.drop k,b with
  |[],_=>rfl
  |[x],_=>rfl
 rw[a,bG]
def xX.step {B:Nat}{v:aK}{S:List Pe}(h:xX B w v S)(hs:O w w'):xX B w' v S:=⟨tV h.row hs (fun _ _ y=>y),fun p hp=>(h.sy p hp).step hs (fun y=>y),h.ne,h.lo⟩
def Me {c:Nat}{t:TypeId}(hn:ss.length=n)(i:Nat)(u:aK)(a:(cellsE [⟨cc,ss,g,c⟩])[i]? =some u):(w'.alloc (.cells #[V cc, .slice (some (U g 0)) n c] t)).cell? (Addr.add (U w'.heap.size 0) i)=some u:=by subst hn;rw[show(Addr.add (U w'.heap.size 0) i)=(U w'.heap.size i) by simp[Addr.add];omega];exact aC (aR _ _) i u (by rw[<-a];simp[cellsE,Pe.v])
def Vt {B q r a:Nat}{wr c w5:aH}{v:aK}{Q:List Pe}{o:Obj}(b:xX B wr v Q)(p:O wr c)(C:O c w')(hk:n<=q)(hn:ss.length=n)(A:c.heap.size+1<w'.heap.size)(l:gG w' (c.heap.size+1) 0 ss)(i:w5.ownsRow B 243 2 (.slice (some (U r 0)) (Q.length+1) a) (Q.length+1) (cellsE Q++cellsE [⟨cc,ss,c.heap.size+1,q⟩]))(d:(w'.alloc o).grownBy w5 v.ownBlock)(z:v.ownBlock=some r\/(w'.alloc o).heap.size<=r)(F:B=w.heap.size)(m:O w wr):Hid (xX B w5 (.slice (some (U r 0)) (Q.length+1) a) (Q++[⟨cc,ss,c.heap.size+1,q⟩]))/\Hid (O w w5)/\wr.heap.size<=w5.heap.size:=by
 have f:O c (w'.alloc o):=C.alloc _;have t:EF (w'.alloc o) ⟨cc,ss,c.heap.size+1,q⟩:=by
  refine⟨by rw[hn];exact hk,by simp;omega,fun j x u=> ?_⟩;have D:=(BD.1 u).1;have s:=(l.step ((aU (fun _=>False) w').alloc o) (fun y=>y)) j D;rw[dS]at s;have e:often ss j=x:=by unfold often;rw[u];rfl
  rw[e]at s;exact s
 refine⟨(b.step p).more (by have:=m.size;have:=p.size;omega) f t (by simp) i d z,?_,?_⟩
 ·exact((m.trans p).trans f).grown d (fun k e=> .inr (by have:=(b.row.lt k e).1;omega))
 ·have:=p.size;have:=f.size;have:=d.size;omega
set_option maxHeartbeats 12000000 in
def Ed (g cap:Nat)(l:List Pe)(w:aH)(h:vP w g l)(hg:g<w.heap.size)(an:∀p∈l,EF w p)(hl:l.length<=100000)(hc:∀p∈l,p.c<=1000000000000/\1<=p.s.length/\p.s.length<=100000):Calls prog 198 #[.slice (some (U g 0)) l.length cap] w fun e w'=>∃v Q,e= .returned v/\xX w.heap.size w' v Q/\Q.map Pe.pa=pairUp (l.map Pe.pa)/\O w w':=by
  have aw:=ay9;obtain⟨i0,hi,ay,aq,X⟩:=eD YZ;obtain⟨B,hB⟩:=aP w.heap.size;rw[<-hB];have HB:=hide hB;have T:=hide hc;clear hB hc;go_enter func198,ntmps198;go_wp2_with fail;go_loopg [3,4] l.length (fun kx u3 u4 wr=>∃(k n:Nat) (v:aK) (Q:List Pe),u4=V k/\u3=v/\k=2*n/\k<=l.length/\kx=l.length-k/\Hid (xX B wr v Q)/\Hid (Q.map Pe.pa=pairUp ((l.take k).map Pe.pa))/\B<=wr.heap.size/\Hid (O w wr));case atStart=>exact⟨0,0,_,[],rfl,rfl,by omega,by omega,rfl,xX.nil _ _,rfl,by have:=HB.o;omega,aU _ _⟩
  case round=>
    obtain⟨k,n,v,Q,rfl,rfl,f,hk,bl,b,j,bm,a⟩:=hrel;by_cases bk:k+1<l.length
    . have ac:(k:Int)+1<(l.length:Int):=by omega
      have L:=h.step a.o (fun y=>y) hg
      obtain⟨a0,a1,_,_⟩:=L k (by omega)
      obtain⟨m,hm⟩:=aP (k+1)
      obtain⟨b0,b1,_,_⟩:=L m (by omega)
      obtain⟨p,hp⟩:=aP (iI l k)
      obtain⟨q,R⟩:=aP (iI l m)
      rw[<-hp]at a0 a1
      rw[<-R]at b0 b1
      have e0:((k:Int)).toNat=k:=by omega
      have e1:((m:Int)).toNat=m:=by omega
      have rm:IntKind.i64.wrap ((k:Int)+1)=(m:Int):=by rw[dK];omega
      have z0:(0:Int)<=(k:Int):=by omega
      have z1:(k:Int)<(l.length:Int):=by omega
      have z2:(0:Int)<=(m:Int):=by omega
      have z3:(m:Int)<(l.length:Int):=by omega
      have bo:g<wr.heap.size:=by have:=a.o.size;omega
      have bc:¬g=wr.heap.size:=by omega
      have bf:¬g=wr.heap.size+1:=by omega
      have az:g<wr.heap.size+1:=by omega
      have HM:=hide hm
      clear hm
      have HK:=hide f
      clear f L
      obtain⟨pg,pk,Z,N,K,aa⟩:∃(g k n:Nat) (c:Int),p.v= .slice (some (U g 0)) n k/\(p.c:Int)=c:=⟨p.g,p.cap,p.s.length,_,rfl,rfl⟩
      obtain⟨qg,qk,qn,M,G,ae⟩:∃(g k n:Nat) (c:Int),q.v= .slice (some (U g 0)) n k/\(q.c:Int)=c:=⟨q.g,q.cap,q.s.length,_,rfl,rfl⟩
      rw[aa]at a0
      rw[K]at a1
      rw[ae]at b0
      rw[G]at b1
      go_upto_region 5 with fail
      go_cut [5,6] (fun s5 s6 wd=>∃A D:Nat,s5=(E A)/\s6=(E D)/\wd.heap[A]? =some (.cells #[V N, .slice (some (U pg 0)) Z pk] 243 (0,0))/\wd.heap[D]? =some (.cells #[V M, .slice (some (U qg 0)) qn qk] 243 (0,0))/\O wr wd)
      case first=>
        go_big_region_o
        . go_wp2_with fail
          go_meet
          case rel=>exact⟨wr.heap.size,wr.heap.size+1,rfl,rfl,(dG _ _ _ (by simp)).trans (aR _ _),by have:=aR (wr.alloc (.cells #[V N, .slice (some (U pg 0)) Z pk] 243)) (.cells #[V M, .slice (some (U qg 0)) qn qk] 243);rw[oJ]at this;exact this,(((aU _ _).alloc _).alloc _).drew⟩
        . go_wp2_with fail
          go_meet
          case rel=>exact⟨wr.heap.size+1,wr.heap.size,rfl,rfl,by have:=aR (wr.alloc (.cells #[V M, .slice (some (U qg 0)) qn qk] 243)) (.cells #[V N, .slice (some (U pg 0)) Z pk] 243);rw[oJ]at this;exact this,(dG _ _ _ (by simp)).trans (aR _ _),(((aU _ _).alloc _).alloc _).drew⟩
      case rest=>
        obtain⟨A,D,rfl,rfl,hA,hD,d⟩:=hcut;have au:=aC hA 0 _ rfl;have ah:=aC hA 1 _ rfl;have ax:=aC hD 0 _ rfl;have W:=aC hD 1 _ rfl;have lA:=aO hA;have lD:=aO hD;have ai:=hide d;have sp:=(an p (hp▸G5 (by omega))).step (a.o.trans d) (fun y=>y);have sq:=(an q (R▸G5 (by omega))).step (a.o.trans d) (fun y=>y);obtain⟨x1,x2,x3⟩:=T.o p (hp▸G5 (by omega));obtain⟨y1,y2,y3⟩:=T.o q (R▸G5 (by omega));have i:∀t,Calls prog 132 #[.slice (some (U wc.heap.size 0)) 2 2] (wc.alloc (.cells #[.slice (some (U p.g 0)) p.s.length p.cap, .slice (some (U q.g 0)) q.s.length q.cap] t)).drew fun e w'=>
            ∃I,e= .returned (.slice (some ⟨wc.heap.size+1,0,none⟩) (p.s.length+q.s.length) I)/\p.s.length+q.s.length<=I/\wc.heap.size+1<w'.heap.size/\gG w' (wc.heap.size+1) 0 (p.s++q.s)/\O wc w':=fun t=>by
          apply(Qq p.g p.cap q.g q.cap p.s q.s wc.drew t (sp.nums) (sq.nums) x2 (by omega)).mono;rintro e w' ⟨I,h1,h2,h3,h4,h5⟩;exact⟨I,h1,h2,h3,h4,((aU (fun _=>False) wc).drew).trans h5⟩
        have x:p.v= .slice (some (U p.g 0)) p.s.length p.cap:=rfl;have u:q.v= .slice (some (U q.g 0)) q.s.length q.cap:=rfl;rw[x]at K;rw[u]at G;cases K;cases G;obtain⟨Z,F⟩:∃n,p.s.length=n:=⟨_,rfl⟩
        obtain⟨qn,H⟩:∃n,q.s.length=n:=⟨_,rfl⟩
        rw[F]at i ah;rw[H]at i W;have aj:=hide i;have av:N<=1000000000000/\0<=N:=(by omega);have ao:M<=1000000000000/\0<=M:=(by omega);obtain⟨be,ba⟩:=av;obtain⟨bh,bg⟩:=ao;obtain⟨cc,P⟩:∃cc:Nat,cc=p.c+q.c:=⟨_,rfl⟩
        have bn:IntKind.i64.wrap (N+M)=(cc:Int):=(by rw[dK];omega);have Y:=hide (aQ hp (aQ R (aQ P (aQ F H))));have bj:Q.length<=k:=by
          have h1:=lZ List.length j.o;have h2:=mW ((l.take k).map Pe.pa);simp only[nG,dF]at h1 h2;omega
        have bp:wr.heap.size<=wc.heap.size:=d.size;have ap:Q.length+1<=maxLen:=(by unfold maxLen;omega);clear d hA hD a0 a1 b0 b1 i sp sq x1 x2 x3 y1 y2 y3 hp R aa ae F H x u P;obtain⟨ss,r⟩:=aP (p.s++q.s);rw[<-r]at aj;have ag:ss.length=Z+qn:=by
          obtain⟨_,_,_,h1,h2⟩:=Y.o;rw[r,aN,h1,h2]
        have ar:=hide r;have ab:=hide ag;clear r ag;go_upto_region 6 with fail;go_region_law (first
          | (refine AB rfl (.tmp 23) (.tmp 36) 240 rfl B 243 i0 _ 2 32 OY hi ay aq X rfl (by decide) u3 Q.length (cellsE Q) (by simp [Act.eval]) (R'.alloc _) (U w'.heap.size 0) 1 1 (cellsE [⟨cc, ss, wc.heap.size + 1, I⟩]) (by simp [Act.eval]) rfl ?c1 (zQ _) (by decide) ?c3 ?c4 ?c5 ?_
             case c1=>exact Me ab.o
             case c3=>exact ap
             case c4=>omega
             case c5=>simp;omega
             intro g' bb w5 z S am
             have n9:=Vt b.o ai.o K4.o k1 ab.o k2 K3.o z S am HB.o a.o
             obtain⟨N1,S5,Z5⟩:=n9
             clear z S am R' K3 K4 k1 k2 ad af al ak)
          |(go_simp;go_at_call 132;apply(aj.o _).mono;rintro e w' ⟨I,rfl,k1,k2,k3,J⟩;have ad:=J.cell au (fun y=>y);have af:=J.cell ah (fun y=>y);have al:=J.cell ax (fun y=>y);have ak:=J.cell W (fun y=>y);have R':=tV b.o.row (ai.o.trans J) (fun _ _ y=>y);have K3:=hide k3;have K4:=hide J;clear k3 J))
        all_goals
          go_wp2_with fail;go_roundg (l.length-(k+2));case measure=>omega
          case rel=>
            refine⟨k+2,n+1,_,Q++[⟨cc,ss,wc.heap.size+1,I⟩],by go_num,rfl,by have:=HK.o;omega,by have:=HM.o;omega,rfl,?_,?_,by omega,S5⟩;. exact N1;. exact al5 j.o HK.o (by have:=HM.o;omega) HM.o Y.o ar.o
    . have ac:¬(k:Int)+1<(l.length:Int):=by omega
      have C:Q.map Pe.pa=pairUp (l.map Pe.pa):=by
        rw[j.o];exact(Zc f (by omega) hk).symm
      have HF:=hide C
      clear C j f
      go_wp2_with fail
      go_ret
      exact⟨_,rfl,Q,b.o,HF.o,a.o⟩
def Nj (w:aH):Calls prog 198 #[.slice none 0 0] w fun e w'=>e= .returned (.slice none 0 0)/\O w w':=by
 go_enter func198,ntmps198;go_wp2_with fail;go_loopg [3,4] 0 (fun kx u3 u4 wr=>u3= .slice none 0 0/\u4=V 0/\O w wr);case atStart=>exact⟨rfl,rfl,aU _ _⟩
 case round=>
  obtain⟨rfl,rfl,a⟩:=hrel;go_wp2_with fail;go_ret;exact⟨rfl,a⟩
def Vg (v:aK)(l:List Pe)(w:aH)(h:vL w v l)(a:∀p∈l,EF w p)(f:l.length<=100000)(j:∀p∈l,p.c<=1000000000000/\1<=p.s.length/\p.s.length<=100000):Calls prog 198 #[v] w fun e w'=>∃b Q,e= .returned b/\xX w.heap.size w' b Q/\Q.map Pe.pa=pairUp (l.map Pe.pa)/\O w w':=by
 rcases h with⟨rfl,rfl⟩|⟨g,cap,rfl,k,d,i⟩
 ·apply(Nj w).mono;rintro e w' ⟨rfl,hs⟩;exact⟨_,[],rfl,xX.nil _ _,rfl,hs⟩
 ·exact Ed g cap l w i d a f j
end Go.Proofs.YtbpahojchgpdnaaGreatDoor
