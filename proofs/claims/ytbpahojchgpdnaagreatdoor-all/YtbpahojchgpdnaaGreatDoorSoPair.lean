import Derived.Test.YtbpahojchgpdnaaGreatDoorSortB
import Derived.Test.YtbpahojchgpdnaaGreatDoorFound
set_option maxRecDepth 20000
set_option maxHeartbeats 4000000
set_option linter.all false
namespace Go.dM
variable {w w':aH} {cc g n:Nat} {ss:aD}
def xL:∀(n:Nat) (A B:List Pa),A.length=2*n->pairUp (A++B)=pairUp A++pairUp B
 |0,A,B,h=>by
  have:A=[]:=kP (by omega)
  subst this;simp[pairUp]
 |n+1,A,B,h=>by
  match A,h with
  |x::y::A,h=>
   have ih:=xL n A B (by simp at h;omega)
   simp only[jZ,pairUp,ih]
end Go.dM
namespace Go.Proofs.YtbpahojchgpdnaaGreatDoor
open Go.RowKit Go.Shelf Go.Lib Go.Sort Go.dM Go.Proofs.Tryz
variable {w w':aH} {cc g n:Nat} {ss:aD}
def gG.pt {L:aD}(cap:Nat)(h:gG w g 0 L):Pt.ok w 1 ⟨.slice (some (U g 0)) L.length cap,L.length,L.map fun x=>V (x:Nat)⟩:=by
 refine⟨by simp,fun u a=> ?_,some (U g 0),cap,rfl,fun h=>(by cases h),fun d b j u a=> ?_⟩
 ·simp only[sU]at a;obtain⟨x,_,rfl⟩:=a;rfl
 ·cases b;have c:=(BD.1 a).1;rw[nG]at c;rw[show(Addr.add (U g 0) j)=⟨g,0+j,none⟩ by simp[Addr.add];omega,h j c,<-a];unfold often;rw[kE,bV c];rfl
def gG.D6 {base cap:Nat}{L:aD}(h:w.ownsRow base 3 1 (.slice (some (U g 0)) L.length cap) L.length (L.map fun x=>V (x:Nat))):L.length<=cap/\g<w.heap.size/\gG w g 0 L:=by
 have e:=h;obtain⟨m,⟨b,hn⟩|⟨k,c,d,b,l,hh,a,f,j,o⟩⟩:=h
 ·cases b
 ·cases b;refine⟨a,aO hh,fun i hi=> ?_⟩;rw[dS];have:=e.cells rfl i (V (often L i:Nat)) (by rw[kE,bV hi];simp[often,hi]);rw[show(Addr.add (U g 0) i)=(U g i) by simp[Addr.add];omega]at this;exact this
def Qq (f i j k:Nat)(xs ys:aD)(b:aH)(t:TypeId)(q:gG b f 0 xs)(s:gG b j 0 ys)(v:1<=xs.length)(z:xs.length+ys.length<=1000000):Calls prog 132 #[.slice (some (U b.heap.size 0)) 2 2] (b.alloc (.cells #[.slice (some (U f 0)) xs.length i, .slice (some (U j 0)) ys.length k] t)) fun e w'=>∃m,e= .returned (.slice (some ⟨b.heap.size+1,0,none⟩) (xs.length+ys.length) m)/\xs.length+ys.length<=m/\b.heap.size+1<w'.heap.size/\gG w' (b.heap.size+1) 0 (xs++ys)/\O b w':=by
 have c:O b (b.alloc (.cells #[.slice (some (U f 0)) xs.length i, .slice (some (U j 0)) ys.length k] t)):=(aU _ _).alloc _;have a:kK [⟨.slice (some (U f 0)) xs.length i,xs.length,xs.map fun x=>V (x:Nat)⟩,⟨.slice (some (U j 0)) ys.length k,ys.length,ys.map fun x=>V (x:Nat)⟩] 2=(xs++ys).length:=by simp[kK]
 have l:allM [⟨.slice (some (U f 0)) xs.length i,xs.length,xs.map fun x=>V (x:Nat)⟩,⟨.slice (some (U j 0)) ys.length k,ys.length,ys.map fun x=>V (x:Nat)⟩]=(xs++ys).map fun x=>V (x:Nat):=by simp[allM]
 refine(aj5 b.heap.size 2 2 [⟨.slice (some (U f 0)) xs.length i,xs.length,xs.map fun x=>V (x:Nat)⟩,⟨.slice (some (U j 0)) ys.length k,ys.length,ys.map fun x=>V (x:Nat)⟩] (b.alloc _) rfl (by omega) (by omega) WQ ?cb ?cp ?cr).mono ?_;case cb=>
  intro r p;simp only[fE,wQ,or_false]at p;rcases p with rfl|rfl
  ·exact(q.step c (fun y=>y)).pt i
  ·exact(s.step c (fun y=>y)).pt k
 case cp=>rw[a];simp;omega
 case cr=>rw[a];simp;omega
 rintro e w' ⟨m,rfl,d,o⟩;rw[a,l,oJ]at d;obtain⟨k1,k2,u⟩:=gG.D6 d;rw[aN]at k1;exact⟨m,by rw[a,oJ,aN],k1,k2,u,c.trans o⟩
def al5 {l Q:List Pe}{k m o r c:Nat}{p q:Pe}(h:Q.map Pe.pa=pairUp ((l.take k).map Pe.pa))(hk:k=2*n)(t:k+1<l.length)(i:m=k+1)(j:p=iI l k/\q=iI l m/\cc=p.c+q.c/\p.s.length=o/\q.s.length=r)(hs:ss=p.s++q.s):(Q++[(⟨cc,ss,g,c⟩:Pe)]).map Pe.pa=pairUp ((l.take (k+2)).map Pe.pa):=by
 obtain⟨d,e,f,_,_⟩:=j;have a:l[k]? =some p:=by rw[d];unfold iI;rw[bV (by omega)];rfl
 have b:l[k+1]? =some q:=by rw[e,i];unfold iI;rw[bV (by omega)];rfl
 have e3:l.take (k+2)=l.take k++[p,q]:=by
  rw[show k+2=k+1+1 by omega,jE,jE,a,b];simp
 rw[e3,sS,sS,xL n _ _ (by simp;omega),h,f,hs];rfl
def Zc {l:List Pe}{k:Nat}(hk:k=2*n)(d:l.length<=k+1)(c:k<=l.length):pairUp (l.map Pe.pa)=pairUp ((l.take k).map Pe.pa):=by
 have e:l.map Pe.pa=(l.take k).map Pe.pa++(l.drop k).map Pe.pa:=by rw[<-sS,pJ]
 rw[e,xL n _ _ (by simp;omega)];have a:pairUp ((l.drop k).map Pe.pa)=[]:=by
  have b:(l.drop k).length<=1:=by simp;omega
  match l.drop k,b with
  |[],_=>rfl
  |[x],_=>rfl
 rw[a,bG]
def xX.step {B:Nat}{v:aK}{S:List Pe}(h:xX B w v S)(hs:O w w'):xX B w' v S:=⟨tV h.row hs (fun _ _ y=>y),fun p hp=>(h.sy p hp).step hs (fun y=>y),h.ne,h.lo⟩
def Me {c:Nat}{t:TypeId}(hn:ss.length=n)(i:Nat)(u:aK)(a:(cellsE [⟨cc,ss,g,c⟩])[i]? =some u):(w'.alloc (.cells #[V cc, .slice (some (U g 0)) n c] t)).cell? (Addr.add (U w'.heap.size 0) i)=some u:=by subst hn;rw[show(Addr.add (U w'.heap.size 0) i)=(U w'.heap.size i) by simp[Addr.add];omega];exact aC (aR _ _) i u (by rw[<-a];simp[cellsE,Pe.v])
def Vt {B p q a:Nat}{wr c w5:aH}{v:aK}{Q:List Pe}{o:Obj}(b:xX B wr v Q)(r:O wr c)(z:O c w')(hk:n<=p)(hn:ss.length=n)(D:c.heap.size+1<w'.heap.size)(i:gG w' (c.heap.size+1) 0 ss)(l:w5.ownsRow B 243 2 (.slice (some (U q 0)) (Q.length+1) a) (Q.length+1) (cellsE Q++cellsE [⟨cc,ss,c.heap.size+1,p⟩]))(d:(w'.alloc o).grownBy w5 v.ownBlock)(A:v.ownBlock=some q\/(w'.alloc o).heap.size<=q)(F:B=w.heap.size)(m:O w wr):Hid (xX B w5 (.slice (some (U q 0)) (Q.length+1) a) (Q++[⟨cc,ss,c.heap.size+1,p⟩]))/\Hid (O w w5)/\wr.heap.size<=w5.heap.size:=by
 have f:O c (w'.alloc o):=z.alloc _;have t:EF (w'.alloc o) ⟨cc,ss,c.heap.size+1,p⟩:=by
  refine⟨by rw[hn];exact hk,by simp;omega,fun j x u=> ?_⟩;have C:=(BD.1 u).1;have s:=(i.step ((aU (fun _=>False) w').alloc o) (fun y=>y)) j C;rw[dS]at s;have e:often ss j=x:=by unfold often;rw[u];rfl
  rw[e]at s;exact s
 refine⟨(b.step r).more (by have:=m.size;have:=r.size;omega) f t (by simp) l d A,?_,?_⟩
 ·exact((m.trans r).trans f).grown d (fun k e=> .inr (by have:=(b.row.lt k e).1;omega))
 ·have:=r.size;have:=f.size;have:=d.size;omega
set_option maxHeartbeats 12000000 in
def Ed (g cap:Nat)(l:List Pe)(w:aH)(h:vP w g l)(hg:g<w.heap.size)(ak:∀p∈l,EF w p)(hl:l.length<=100000)(hc:∀p∈l,p.c<=1000000000000/\1<=p.s.length/\p.s.length<=100000):Calls prog 198 #[.slice (some (U g 0)) l.length cap] w fun e w'=>∃v Q,e= .returned v/\xX w.heap.size w' v Q/\Q.map Pe.pa=pairUp (l.map Pe.pa)/\O w w':=by
  have aw:=ay9;obtain⟨i0,hi,au,av,al⟩:=eD YZ;obtain⟨B,hB⟩:=aP w.heap.size;rw[<-hB];have HB:=hide hB;have P:=hide hc;clear hB hc;go_enter func198,ntmps198;go_wp2_with fail;go_loopg [3,4] l.length (fun kx u3 u4 wr=>∃(k n:Nat) (v:aK) (Q:List Pe),u4=V k/\u3=v/\k=2*n/\k<=l.length/\kx=l.length-k/\Hid (xX B wr v Q)/\Hid (Q.map Pe.pa=pairUp ((l.take k).map Pe.pa))/\B<=wr.heap.size/\Hid (O w wr));case atStart=>exact⟨0,0,_,[],rfl,rfl,by omega,by omega,rfl,xX.nil _ _,rfl,by have:=HB.o;omega,aU _ _⟩
  case round=>
    obtain⟨k,n,v,Q,rfl,rfl,j,hk,bj,b,f,bg,a⟩:=hrel;by_cases bk:k+1<l.length
    . have ag:(k:Int)+1<(l.length:Int):=by omega
      have G:=h.step a.o (fun y=>y) hg;obtain⟨a0,a1,_,_⟩:=G k (by omega);obtain⟨m,hm⟩:=aP (k+1);obtain⟨b0,b1,_,_⟩:=G m (by omega);obtain⟨p,hp⟩:=aP (iI l k);obtain⟨q,hq⟩:=aP (iI l m);rw[<-hp]at a0 a1;rw[<-hq]at b0 b1;have e0:((k:Int)).toNat=k:=(by omega);have e1:((m:Int)).toNat=m:=(by omega);have rm:IntKind.i64.wrap ((k:Int)+1)=(m:Int):=(by rw[dK];omega);have z0:(0:Int)<=(k:Int):=(by omega);have z1:(k:Int)<(l.length:Int):=(by omega);have z2:(0:Int)<=(m:Int):=(by omega);have z3:(m:Int)<(l.length:Int):=(by omega);have bh:g<wr.heap.size:=(by have:=a.o.size;omega);have ay:¬g=wr.heap.size:=(by omega);have az:¬g=wr.heap.size+1:=(by omega);have ba:g<wr.heap.size+1:=(by omega);have HM:=hide hm;clear hm;have HK:=hide j;clear j G;obtain⟨pg,pk,pn,M,I,ah⟩:∃(g k n:Nat) (c:Int),p.v= .slice (some (U g 0)) n k/\(p.c:Int)=c:=⟨p.g,p.cap,p.s.length,_,rfl,rfl⟩
      obtain⟨qg,qk,qn,N,K,ai⟩:∃(g k n:Nat) (c:Int),q.v= .slice (some (U g 0)) n k/\(q.c:Int)=c:=⟨q.g,q.cap,q.s.length,_,rfl,rfl⟩
      rw[ah]at a0;rw[I]at a1;rw[ai]at b0;rw[K]at b1;go_upto_region 5 with fail;go_cut [5,6] (fun s5 s6 wd=>∃A D:Nat,s5=(E A)/\s6=(E D)/\wd.heap[A]? =some (.cells #[V M, .slice (some (U pg 0)) pn pk] 243 (0,0))/\wd.heap[D]? =some (.cells #[V N, .slice (some (U qg 0)) qn qk] 243 (0,0))/\O wr wd);case first=>
        go_big_region_o
        . go_wp2_with fail
          go_meet;case rel=>exact⟨wr.heap.size,wr.heap.size+1,rfl,rfl,(dG _ _ _ (by simp)).trans (aR _ _),by have:=aR (wr.alloc (.cells #[V M, .slice (some (U pg 0)) pn pk] 243)) (.cells #[V N, .slice (some (U qg 0)) qn qk] 243);rw[oJ]at this;exact this,(((aU _ _).alloc _).alloc _).drew⟩
        . go_wp2_with fail
          go_meet;case rel=>exact⟨wr.heap.size+1,wr.heap.size,rfl,rfl,by have:=aR (wr.alloc (.cells #[V N, .slice (some (U qg 0)) qn qk] 243)) (.cells #[V M, .slice (some (U pg 0)) pn pk] 243);rw[oJ]at this;exact this,(dG _ _ _ (by simp)).trans (aR _ _),(((aU _ _).alloc _).alloc _).drew⟩
      case rest=>
        obtain⟨A,D,rfl,rfl,hA,hD,d⟩:=hcut;have an:=aC hA 0 _ rfl;have Y:=aC hA 1 _ rfl;have ao:=aC hD 0 _ rfl;have ab:=aC hD 1 _ rfl;have lA:=aO hA;have lD:=aO hD;have T:=hide d;have sp:=(ak p (hp▸G5 (by omega))).step (a.o.trans d) (fun y=>y);have sq:=(ak q (hq▸G5 (by omega))).step (a.o.trans d) (fun y=>y);obtain⟨x1,x2,x3⟩:=P.o p (hp▸G5 (by omega));obtain⟨y1,y2,y3⟩:=P.o q (hq▸G5 (by omega));have i:∀t,Calls prog 132 #[.slice (some (U wc.heap.size 0)) 2 2] (wc.alloc (.cells #[.slice (some (U p.g 0)) p.s.length p.cap, .slice (some (U q.g 0)) q.s.length q.cap] t)).drew fun e w'=>
            ∃F,e= .returned (.slice (some ⟨wc.heap.size+1,0,none⟩) (p.s.length+q.s.length) F)/\p.s.length+q.s.length<=F/\wc.heap.size+1<w'.heap.size/\gG w' (wc.heap.size+1) 0 (p.s++q.s)/\O wc w':=fun t=>by
          apply(Qq p.g p.cap q.g q.cap p.s q.s wc.drew t (sp.nums) (sq.nums) x2 (by omega)).mono;rintro e w' ⟨F,h1,h2,h3,h4,h5⟩;exact⟨F,h1,h2,h3,h4,((aU (fun _=>False) wc).drew).trans h5⟩
        have z:p.v= .slice (some (U p.g 0)) p.s.length p.cap:=rfl;have C:q.v= .slice (some (U q.g 0)) q.s.length q.cap:=rfl;rw[z]at I;rw[C]at K;cases I;cases K;obtain⟨pn,H⟩:∃n,p.s.length=n:=⟨_,rfl⟩
        obtain⟨qn,J⟩:∃n,q.s.length=n:=⟨_,rfl⟩
        rw[H]at i Y;rw[J]at i ab;have R:=hide i;have aq:M<=1000000000000/\0<=M:=(by omega);have ar:N<=1000000000000/\0<=N:=(by omega);obtain⟨bb,bc⟩:=aq;obtain⟨be,bf⟩:=ar;obtain⟨cc,ad⟩:∃cc:Nat,cc=p.c+q.c:=⟨_,rfl⟩
        have bn:IntKind.i64.wrap (M+N)=(cc:Int):=(by rw[dK];omega);have S:=hide (aQ hp (aQ hq (aQ ad (aQ H J))));have bl:Q.length<=k:=by
          have h1:=lZ List.length f.o;have h2:=mW ((l.take k).map Pe.pa);simp only[nG,dF]at h1 h2;omega
        have bm:wr.heap.size<=wc.heap.size:=d.size;have ap:Q.length+1<=maxLen:=(by unfold maxLen;omega);clear d hA hD a0 a1 b0 b1 i sp sq x1 x2 x3 y1 y2 y3 hp hq ah ai H J z C ad;obtain⟨ss,r⟩:=aP (p.s++q.s);rw[<-r]at R;have aj:ss.length=pn+qn:=by
          obtain⟨_,_,_,h1,h2⟩:=S.o;rw[r,aN,h1,h2]
        have am:=hide r;have W:=hide aj;clear r aj;go_upto_region 6 with fail;go_region_law (first
          | (refine AB rfl (.tmp 23) (.tmp 36) 240 rfl B 243 i0 _ 2 32 OY hi au av al rfl (by decide) u3 Q.length (cellsE Q) (by simp [Act.eval]) (R'.alloc _) (U w'.heap.size 0) 1 1 (cellsE [⟨cc, ss, wc.heap.size + 1, F⟩]) (by simp [Act.eval]) rfl ?c1 (zQ _) (by decide) ?c3 ?c4 ?c5 ?_
             case c1=>exact Me W.o
             case c3=>exact ap
             case c4=>omega
             case c5=>simp;omega
             intro g' ax w5 x af ae
             have n9:=Vt b.o T.o K4.o k1 W.o k2 K3.o x af ae HB.o a.o
             obtain⟨N1,S5,Z5⟩:=n9
             clear x af ae R' K3 K4 k1 k2 X Z aa ac)
          |(go_simp;go_at_call 132;apply(R.o _).mono;rintro e w' ⟨F,rfl,k1,k2,k3,L⟩;have X:=L.cell an (fun y=>y);have Z:=L.cell Y (fun y=>y);have aa:=L.cell ao (fun y=>y);have ac:=L.cell ab (fun y=>y);have R':=tV b.o.row (T.o.trans L) (fun _ _ y=>y);have K3:=hide k3;have K4:=hide L;clear k3 L))
        all_goals
          go_wp2_with fail;go_roundg (l.length-(k+2));case measure=>omega
          case rel=>
            refine⟨k+2,n+1,_,Q++[⟨cc,ss,wc.heap.size+1,F⟩],by go_num,rfl,by have:=HK.o;omega,by have:=HM.o;omega,rfl,?_,?_,by omega,S5⟩
            . exact N1
            . exact al5 f.o HK.o (by have:=HM.o;omega) HM.o S.o am.o
    . have ag:¬(k:Int)+1<(l.length:Int):=by omega
      have u:Q.map Pe.pa=pairUp (l.map Pe.pa):=by
        rw[f.o];exact(Zc j (by omega) hk).symm
      have HF:=hide u;clear u f j;go_wp2_with fail;go_ret;exact⟨_,rfl,Q,b.o,HF.o,a.o⟩
def Nj (w:aH):Calls prog 198 #[.slice none 0 0] w fun e w'=>e= .returned (.slice none 0 0)/\O w w':=by
 go_enter func198,ntmps198;go_wp2_with fail;go_loopg [3,4] 0 (fun kx u3 u4 wr=>u3= .slice none 0 0/\u4=V 0/\O w wr);case atStart=>exact⟨rfl,rfl,aU _ _⟩
 case round=>
  obtain⟨rfl,rfl,a⟩:=hrel;go_wp2_with fail;go_ret;exact⟨rfl,a⟩
def Vg (v:aK)(l:List Pe)(w:aH)(h:vL w v l)(a:∀p∈l,EF w p)(j:l.length<=100000)(i:∀p∈l,p.c<=1000000000000/\1<=p.s.length/\p.s.length<=100000):Calls prog 198 #[v] w fun e w'=>∃b Q,e= .returned b/\xX w.heap.size w' b Q/\Q.map Pe.pa=pairUp (l.map Pe.pa)/\O w w':=by
 rcases h with⟨rfl,rfl⟩|⟨g,cap,rfl,k,d,f⟩
 ·apply(Nj w).mono;rintro e w' ⟨rfl,hs⟩;exact⟨_,[],rfl,xX.nil _ _,rfl,hs⟩
 ·exact Ed g cap l w f d a j i
end Go.Proofs.YtbpahojchgpdnaaGreatDoor
