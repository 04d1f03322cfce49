import Derived.Laws.CopyOwn
import Derived.Lib.AppendZerosOnto
import Derived.Test.YtbpahojchgpdnaaGreatDoorFeeds
set_option maxRecDepth 20000
set_option maxHeartbeats 4000000
set_option linter.all false
namespace Go.Proofs.YtbpahojchgpdnaaGreatDoor
open Go.RowKit Go.dM Go.Maps Go.Proofs.Tryz
variable {w:aH} {base g n:Nat} {L:aD}
def XU (h:Ints w g 0 L)(n:Nat):Ints w g 0 (L.take n):=
 ⟨fun i hi=>by
   have a:i<L.length:=by simp at hi;omega
   have b:i<n:=by simp at hi;omega
   rw[h.cell i a,jQ b],fun i=>by
   by_cases hi:i<n
   ·rw[jQ hi];exact h.le i
   ·rw[fZ (by simp;omega)];simp,by have:=h.much;simp;omega⟩
def WK (h:Ints w g 0 L)(n:Nat):Ints w g n (L.drop n):=
 ⟨fun i hi=>by
   have a:n+i<L.length:=by simp at hi;omega
   have:=h.cell (n+i) a
   rw[dS]at this
   rw[this,kM],fun i=>by rw[kM];exact h.le _,by have:=h.much;simp;omega⟩
structure ad9 (B:aD)(p:Nat)(pos:Nat->Nat)(L:aD):Prop where
 there:p+71<=8*B.length
 n1:aG B p 5=0
 n2:aG B (p+5) 5=0
 n3:aG B (p+10) 4=15
 aE0:fF (bD B (p+14) 19)=true
 aI0:pos 0=p+71
 len:L.length=258
 lt:∀i:Nat,L[i]?.getD 0<16
 code:∀i,i<258->vS (aI (bD B (p+14) 19)).longest (aI (bD B (p+14) 19)).tab B (pos i) (pos (i+1)) (L[i]?.getD 0)
 end_:0<(L.take 257)[256]?.getD 0
 may:fF (L.take 257)=true
 none_:eG (L.drop 257) (L.drop 257).length=0
structure KM (B:aD)(p:Nat)(last:Bool)(kind:Nat):Prop where
 there:p+3<=8*B.length
 ay6:bK B p=last.toNat
 ak9:aG B (p+1) 2=kind
def X6 {d f off cap z p:Nat}{B:aD}{st:iH}{b:Bool}(h:mF w d f base g off cap z B st p):mF (w.setCell (U d 5) (.bool b)) d f base g off cap z B { st with last:=b } p:=h.set 5 _ (by simp[iH.cells]) rfl rfl
structure PS where
 out:aD
 most:Nat
 place:Nat
 last:Bool
 left:Nat
 tab:Tab
 longest:Nat
 p:Nat
def PS.ended (s:PS)(p:Nat):PS:={ s with place:=if s.last then 3 else 0,p:=if s.last then(p+7)/8*8 else p }
def aW:aD:=List.replicate 144 8++List.replicate 112 9++List.replicate 24 7++List.replicate 8 8
inductive AU (B:aD):PS->PS->Prop
 | stored (s : PS) (q n : Nat) (last : Bool) (h0 : s.place = 0) (hh : KM B s.p last 0) (hq : q = (s.p + 3 + 7) / 8 * 8) (hp : q + 32 <= 8 * B.length) (hn : aG B q 16 = n) (hm : aG B (q + 16) 16 = 65535 - n) (hn2 : n <= 65535) :
   AU B s { s with last:=last,left:=n,place:=1,p:=q+32 }
 | told (s : PS) (last : Bool) (pos : Nat -> Nat) (L : aD) (h0 : s.place = 0) (hh : KM B s.p last 2) (ht : ad9 B (s.p + 3) pos L) :
   AU B s { s with last:=last,place:=2,tab:=(aI (L.take 257)).tab,longest:=(aI (L.take 257)).longest,p:=pos 258 }
 | fixed (s : PS) (last : Bool) (h0 : s.place = 0) (hh : KM B s.p last 1) :
   AU B s { s with last:=last,place:=2,tab:=(aI aW).tab,longest:=(aI aW).longest,p:=s.p+3 }
 | byte (s : PS) (h0 : s.place = 1) (hl : 0 < s.left) (hl2 : s.left <= 65535) (hp : s.p + 8 <= 8 * B.length) (hr : s.out.length < s.most) :
   AU B s { s with out:=s.out++[aG B s.p 8],left:=s.left-1,p:=s.p+8 }
 |bytes (s:PS) (h0:s.place=1) (hl:s.left=0) (hp:s.p<=8*B.length):AU B s (s.ended s.p)
 |sym (s:PS) (q c:Nat) (h0:s.place=2) (hc:vS s.longest s.tab B s.p q c) (h256:c<256) (hr:s.out.length<s.most):AU B s { s with out:=s.out++[c],p:=q }
 |syms (s:PS) (q:Nat) (h0:s.place=2) (hc:vS s.longest s.tab B s.p q 256):AU B s (s.ended q)
inductive Ag (B:aD):PS->PS->Prop
 |byte (s:PS) (h0:s.place=1) (hl:0<s.left) (hl2:s.left<=65535) (hp:s.p+8<=8*B.length) (hr:s.out.length=s.most):Ag B s { s with left:=s.left-1,p:=s.p+8 }
 |sym (s:PS) (q c:Nat) (h0:s.place=2) (hc:vS s.longest s.tab B s.p q c) (h256:c<256) (hr:s.out.length=s.most):Ag B s { s with p:=q }
def Dz (b:Nat)(a:b<4294967296):bits .and .u64 (b:Int) 4294967295=(b:Int):=by have h:=bits_and_u64_nat b 4294967295 (by omega) (by omega);rw[show(4294967295:Nat)=2^32-1 by rfl,Nat.and_two_pow_sub_one_eq_mod,kC (by omega)]at h;exact h
def Rs (b:Nat)(w:aH)(d:b<1000):Calls prog 180 #[.int .u64 1, .int .u64 (b:Nat)] w fun e w'=>e= .returned (.tuple #[.int .u64 0, .int .u64 (b:Nat)])/\w'=w:=by
 have m1:=Dz b (by omega);have m2:bits .and .u64 (1:Int) 4294967295=1:=by decide
 have f:bits .and .u64 (0:Int) 4294967295=0:=by decide
 have a:(b:Int)/4294967296=0:=by omega
 have c:(b:Int)/2^32=0:=by omega
 go_enter func180,ntmps180;go_wp2;go_ret2;exact⟨rfl,rfl⟩
def mul_one (b:Nat)(w:aH)(a:b<1000):Calls prog 159 #[.int .u64 1, .int .u64 (b:Nat)] w fun e w'=>e= .returned (.tuple #[.int .u64 0, .int .u64 (b:Nat)])/\w'=w:=by go_enter func159,ntmps159;go_wp2_with (go_at_call 180;apply(Rs b _ a).mono;rintro e w' ⟨rfl,rfl⟩);go_ret2;exact⟨rfl,rfl⟩
abbrev ci (c n:Nat):List aK:=List.replicate n (V (c:Nat))
def Pd:(prog.info? 3).map (·.size)=some 1:=by kernel_rfl
def WX (c a n m:Nat)(b:a+m<=n):splice (ci c a++ci 0 (n-a)) a (ci c m)=ci c (a+m)++ci 0 (n-(a+m)):=by unfold splice;rw[UA (by simp),kW (by simp),dQ,GK,J8 (by simp),dQ,iO,List.drop_replicate,<-dB,List.replicate_append_replicate];congr 2;simp;omega
def ah5 {c a:Nat}(h:w.heap[g]? =some (.cells (ci c a++ci 0 (n-a)).toArray 3 (0,0)))(d:a<=n)(j:Nat)(b:j<a):w.cell? (U g j)=some (V c):=by refine aC h j _ ?_;rw[CZ,jA (by simp;exact b),lY,aA b]
def QK {e:Nat}{xs:List aK}(h:w.ownsRow base e 1 (.slice (some (U g 0)) n n) n xs):w.heap[g]? =some (.cells xs.toArray e (0,0)):=by
 obtain⟨f,⟨a,_⟩|⟨d,cap,b,a,_,hh,_,_,hs,c⟩⟩:=h
 ·simp at a
 ·simp only[nK,fH,wG,jX,true_and]at a;obtain⟨rfl,rfl⟩:=a;rw[hh];have:b.toList=xs:=by rw[<-c,kW (by simp;omega)]
  rw[<-this]
def RA (h:w.ownsRow base 3 1 (.slice (some (U g 0)) n n) n (madeCells (V 0).cells (n*1)).toList):w.heap[g]? =some (.cells (ci 0 0++ci 0 (n-0)).toArray 3 (0,0)):=by
 rw[QK h];have e:(madeCells (V 0).cells (n*1)).toList=List.replicate n (V 0):=by rw[wT];exact OQ _ _
 rw[e];simp[ci]
def yF (k c n cap:Nat)(w:aH)(Z:w.cell? (U k 0)=some (V (c:Nat)))(z:1<=n)(hn:n<=300)(F:1<=cap):Calls prog 133 #[.slice (some (U k 0)) 1 cap,V n] w fun e w'=>∃g,e= .returned (.slice (some (U g 0)) n n)/\w.heap.size<=g/\w'.heap[g]? =some (.cells (ci c n).toArray 3 (0,0))/\Below w.heap.size w w':=by
 obtain⟨i0,hi,S,T,W⟩:=eD info3;have M:=kF w _ Z;obtain⟨G,hG⟩:=aP w.heap.size;have HG:=hide hG;go_enter func133,ntmps133;go_wp2_with (first
  |(go_at_call 159;apply(mul_one n _ (by omega)).mono;rintro e w' ⟨rfl,B⟩;rw[B];clear B w')
  |(at_make;refine sD _ rfl _ _ 57 rfl w.heap.size 3 i0 (V 0) 1 underlying57 hi S T .i64 .i64 _ _ n rfl rfl rfl rfl (by rw[W];omega) (by unfold maxLen;omega) (aS _) ?_;intro w1 d l;have b:=RA d;have a:=(qK w.heap.size w).grown l (aS _) (fun k hk=>by cases hk);have R:=(a.cell (p:=(U k 0)) M).trans Z;have u:=hide b;have t:=hide a;clear d l b a)
  |(refine wpList_copy_splice rfl (.tmp 31) (.tmp 32) 57 57 rfl 3 underlying57 Pd _ _ n n 1 cap rfl rfl w.heap.size 0 (ci 0 0++ci 0 (n-0)) 3 u.o (ci c 1) ?s1 ?s2 ?s3 ?s4 w.heap.size w t.o (aS _) ?_;rotate_right;intro w2 x r))
 case s1=>simp only[dQ];exact(vV z).symm
 case s2=>
  intro j v C;match j,C with
  |0,C=>simp at C;subst C;exact R
 case s3=>simp;omega
 case s4=>intro v f;simp at f;subst f;rfl
 rw[show ci 0 0=ci c 0 from rfl,WX c 0 n 1 (by omega),dS]at x;have D:=hide x.o;go_loopw [8] (fun bp wr=>∃j:Nat,1<=j/\j<=n/\bp=V j/\wr.heap[w.heap.size]? =some (.cells (ci c j++ci 0 (n-j)).toArray 3 (0,0))/\Below w.heap.size w wr) (fun bp _=>n-(intOf bp).toNat);case atStart=>exact⟨1,by omega,z,rfl,D.o,r⟩
 case round=>
  obtain⟨j,J,K,rfl,b,a⟩:=hrel;by_cases ac:j<n
  ·obtain⟨m,q⟩:=aP (Nat.min j (n-j));have af:m<=j:=(by rw[q];exact Nat.min_le_left _ _);have Y:m<=n-j:=(by rw[q];exact Nat.min_le_right _ _);have y:j+m<=n:=(by clear q;omega);have ah:IntKind.i64.wrap ((j:Int)+(m:Int))=(j:Int)+(m:Int):=(by clear q;rw[dK];omega);have ae:1<=m:=(by rw[q];exact Nat.le_min.2 ⟨J,by omega⟩);have ag:¬n=j:=(by omega);have ab:(j:Int)<=(n:Int):=(by omega);have aa:(0:Int)<=(j:Int):=(by omega);have N:(ci c m).length=Nat.min j (n-j):=(by rw[dQ];exact q);have P:0<(ci c m).length->∃X,(some (U w.heap.size 0):Option Addr)=some X/\∀i v,(ci c m)[i]? =some v->wr.drew.cell? (X.add i)=some v:=by
    intro _;refine⟨_,rfl,?_⟩;intro i v f;rw[lY]at f;split at f
    ·injection f with f;subst f;have:=ah5 b K i (by omega);rw[show(Addr.add (U w.heap.size 0) i)=(U w.heap.size i) by simp[Addr.add];omega];exact this
    ·cases f
   have Q:j+(ci c m).length<=(ci c j++ci 0 (n-j)).length:=(by simp only[aN,dQ];omega);have A:∀v∈ci c m,v.oneCell'=true:=(by intro v f;rw[List.eq_of_mem_replicate f];rfl);have HM:=hide q;have H8:=hide A;clear q A;go_wp2_with fail;go_region_law (refine step_copy_splice rfl (.tmp 41) (.tmp 44) 57 57 rfl 3 underlying57 Pd (some (U w.heap.size j)) (some (U w.heap.size 0)) (n-j) (n-j) j n (by simp[Act.eval,Act.put]) (by simp[Act.eval,Act.put]) w.heap.size j (ci c j++ci 0 (n-j)) 3 b (ci c m) N (fun h=>⟨rfl,P h⟩) Q H8.o w.heap.size w a.drew (aS _) ?_;intro w3 H s;rw[show(ci c m).length=m from dQ]);go_simp;go_roundw;case rel=>
    refine⟨_,_,_,_,_,_,_,_,_,_,_,_,_,_,⟨j+m,by omega,y,?ga,?gb,s⟩,rfl⟩;case ga=>go_num
    have:=H.o;rw[WX c j n m y]at this;exact this
   case measure=>simp[intOf];omega
  ·obtain rfl:j=n:=by omega
   have I:wr.heap[w.heap.size]? =some (.cells (ci c j).toArray 3 (0,0)):=by
    rw[b,uL];simp[ci]
   go_wp2_with fail;go_ret;exact⟨_,rfl,aS _,I,a⟩
def jI (z:Array aK)(n:Nat):(Builtin.zeroCells z n).size=n*z.size:=by simp[Builtin.zeroCells]
def ab9 (n:Nat)(w:aH)(m:1<=n)(hn:n<=1000):Calls prog 158 #[.slice none 0 0,V n] w fun e w'=>∃cap,e= .returned (.slice (some (U w.heap.size 0)) 0 cap)/\n<=cap/\cap<=maxLen/\(∃c:Array aK,c.size=cap/\w'=w.drew.alloc (.cells c 3 (0,0))):=by
 obtain⟨q,hi,p,x,j⟩:=eD info3;have hold:(Builtin.firstCells q.size 0 (.slice none 0 0)).run prog w.drew= .ok ([]:List aK).toArray w.drew:=OH w.drew q.size 0 0 0;have b:∀t,_:=fun t=>Lib.run_append_grow_zeros (P:=prog) w 57 3 t 3 q (V 0) .i64 .i64 underlying57 underlying3 hi p none 0 0 [] hold n m (by omega) (by omega) (by omega) (by rw[j];omega) (by rw[j];simp[Builtin.nextslicecap];split<;>omega);simp only[dS]at b;have f:=grownCap_ge w n 0 3;have a:=I5 w n 0 3 (by unfold maxLen;omega);obtain⟨G,r⟩:=aP (grownCap w n 0 3);rw[<-r]at b f a;clear r;obtain⟨c,d⟩:∃c:Array aK,c=([]:List aK).toArray++Builtin.zeroCells (V 0).cells n++Builtin.zeroCells (V 0).cells (G-n):=⟨_,rfl⟩
 rw[<-d]at b;have i:c.size=G:=by
  rw[d,zJ,zJ,jI,jI,show(V 0).cells.size=1 from rfl];simp;omega
 have u:=hide i;have k:=hide f;have l:=hide a;have s:(G:Int)<=9223372036854775807:=by unfold maxLen at a;omega
 have v:(0:Int)<(n:Int):=by omega
 clear d i f a hold;go_enter func158,ntmps158;go_wp2_with (at_builtin;refine Lib.wpList_append_run _ rfl _ _ _ _ rfl _ _ rfl rfl _ _ (b _) ?_);go_ret;exact⟨G,rfl,k.o,l.o,c,u.o,rfl⟩
def L6 (r:Nat×Nat×Nat):aK:= .slice (some (U r.1 0)) r.2.2 r.2.2
def iP (R:List (Nat×Nat×Nat))(j:Nat):Nat:=((R.take j).map (·.2.2)).sum
def EK (R:List (Nat×Nat×Nat)):List aK:=R.flatMap fun r=>ci r.2.1 r.2.2
def tT {R:List (Nat×Nat×Nat)}{j:Nat}{r:Nat×Nat×Nat}(h:R[j]? =some r):iP R (j+1)=iP R j+r.2.2:=by unfold iP;rw[jE,h];simp
def Lp {R:List (Nat×Nat×Nat)}{j:Nat}{r:Nat×Nat×Nat}(h:R[j]? =some r):EK (R.take (j+1))=EK (R.take j)++ci r.2.1 r.2.2:=by unfold EK;rw[jE,h];simp
def WL {R:List (Nat×Nat×Nat)}(a:∀r∈R,r.2.2<=200)(j:Nat):iP R j<=200*j:=by
 induction j with
 |zero=>simp[iP]
 |succ j ih=>
  cases h:R[j]? with
  |none=>
   have:iP R (j+1)=iP R j:=(by unfold iP;rw[jE,h];simp);omega
  |some r=>
   rw[tT h];have:=a r (nZ h);omega
def M0 (R:List (Nat×Nat×Nat))(j d:Nat):iP R j<=iP R (j+d):=by
 induction d with
 |zero=>exact aS _
 |succ d ih=>
  rw[<-iV];cases h:R[j+d]? with
  |none=>
   have:iP R (j+d+1)=iP R (j+d):=(by unfold iP;rw[jE,h];simp);omega
  |some r=>rw[tT h];omega
def Rn (a n cap:Nat)(R:List (Nat×Nat×Nat))(w:aH)(ab:R.length=n)(ag:1<=n)(ah:n<=4)(ai:n<=cap)(X:∀j r,R[j]? =some r->w.cell? (U a j)=some (L6 r))(Y:∀r∈R,w.heap[r.1]? =some (.cells (ci r.2.1 r.2.2).toArray 3 (0,0)))(hp:∀r∈R,1<=r.2.2)(W:∀r∈R,r.2.2<=200):Calls prog 132 #[.slice (some (U a 0)) n cap] w fun e w'=>∃T,e= .returned (.slice (some (U w.heap.size 0)) (iP R n) T)/\w'.ownsRow w.heap.size 3 1 (.slice (some (U w.heap.size 0)) (iP R n) T) (iP R n) (EK R)/\Below w.heap.size w w':=by
 obtain⟨i0,hi,ak,P,al⟩:=eD info3;have Q:=hide X;have HB:=hide Y;clear X Y;go_enter func132,ntmps132;go_wp2_with fail;go_loopw [3,11] (fun sz i wr=>∃j:Nat,j<=n/\i=V (j:Nat)/\sz=V (iP R j:Nat)/\w=wr) (fun _ i _=>n-(intOf i).toNat);case atStart=>exact⟨0,by omega,rfl,rfl,rfl⟩
 case round=>
  obtain⟨j,hj,rfl,rfl,rfl⟩:=hrel;by_cases ad:j<n
  ·obtain⟨⟨g,c,m⟩,f⟩:∃r,R[j]? =some r:=⟨_,bV (by omega)⟩
   have hc:w.cell? (U a j)=some (.slice (some (U g 0)) m m):=Q.o j _ f;have hs:iP R (j+1)=iP R j+m:=tT f;have B:=WL W (j+1);obtain⟨S,t⟩:=aP (iP R j);rw[<-t]at hs;rw[hs]at B;rw[<-t];have HS:=hide hs;clear hs t f;have Z:(j:Int)<(n:Int):=(by omega);have af:(S:Int)+(m:Int)<=1000:=(by omega);go_wp2_with fail;go_roundw;case rel=>exact⟨j+1,by omega,by go_num,by rw[HS.o];go_num,bT⟩
   case measure=>simp[intOf];omega
  ·obtain rfl:j=n:=by omega
   have B:=WL W j;have N:1<=iP R j:=by
    obtain⟨r,f⟩:∃r,R[0]? =some r:=⟨_,bV (by omega)⟩
    have F:=tT f;have h2:=hp r (nZ f);have h3:=M0 R 1 (j-1);rw[show 1+(j-1)=j by omega]at h3;rw[dS]at F;omega
   go_wp2_with (go_at_call 158;apply(ab9 (iP R j) _ N (by omega)).mono;rintro e w1 ⟨c1,rfl,I,J,G,ac,aj⟩)
   have d:(w.alloc (.cells G 3 (0,0))).drew.ownsRow w.heap.size 3 1 (.slice (some (U w.heap.size 0)) 0 c1) 0 []:=
    ⟨by simp, .inr ⟨w.heap.size,c1,G,rfl,aS _,aR _ _,by omega,J,by omega,by simp⟩⟩
   have b:Below w.heap.size w (w.alloc (.cells G 3 (0,0))).drew:=((qK w.heap.size w).alloc (aS _) _).drew;go_loopw [6,27] (fun s i wr=>∃k:Nat,k<=j/\i=V k/\s= .slice (some (U w.heap.size 0)) (iP R k) c1/\wr.ownsRow w.heap.size 3 1 (.slice (some (U w.heap.size 0)) (iP R k) c1) (iP R k) (EK (R.take k))/\Below w.heap.size w wr) (fun _ i _=>j-(intOf i).toNat);case atStart=>exact⟨0,by omega,rfl,rfl,d,b⟩
   case round=>
    obtain⟨k,hk,rfl,rfl,d,b⟩:=hrel;by_cases ae:k<j
    ·obtain⟨⟨g,c,m⟩,f⟩:∃r,R[k]? =some r:=⟨_,bV (by omega)⟩
     have y:w.cell? (U a k)=some (.slice (some (U g 0)) m m):=Q.o k _ f;have hc:=(b.cell (p:=(U a k)) (kF w _ y)).trans y;have hs:iP R (k+1)=iP R k+m:=tT f;have H:EK (R.take (k+1))=EK (R.take k)++ci c m:=Lp f;have l:iP R k+m<=c1:=by
      have:=M0 R (k+1) (j-(k+1));rw[show k+1+(j-(k+1))=j by omega]at this;have:=I;omega
     have z:w.heap[g]? =some (.cells (ci c m).toArray 3 (0,0)):=HB.o _ (nZ f);have D:∀i u,(ci c m)[i]? =some u->wr.cell? (Addr.add (U g 0) i)=some u:=by
      intro i u hu;have F:=aC z i u (by rw[CZ];exact hu);have K:=kF w _ F;rw[show(Addr.add (U g 0) i)=(U g i) by simp[Addr.add];omega];exact(b.cell (p:=(U g i)) K).trans F
     have C:∀v∈ci c m,v.oneCell'=true:=(by intro v hv;rw[List.eq_of_mem_replicate hv];rfl);obtain⟨S,t⟩:=aP (iP R k);rw[<-t]at hs l d;rw[<-t];clear t f z y;have aa:(k:Int)<(j:Int):=(by omega);go_wp2_with (at_builtin;refine PD _ rfl (.tmp 31) (.tmp 32) 57 rfl w.heap.size 3 i0 1 underlying57 hi P w.heap.size S c1 (EK (R.take k)) rfl d (U g 0) m m (ci c m) rfl (by rw[dQ,wT]) D C l ?_;intro w2 M A);have x:=b.grown A b.size (fun q hq=>by cases hq;exact aS _);go_roundw;case rel=>exact⟨k+1,by omega,by go_num,by rw[hs],by rw[hs,H];exact M,x⟩
     case measure=>simp[intOf];omega
    ·obtain rfl:k=j:=by omega
     go_wp2_with fail;go_ret;refine⟨c1,rfl,?_,b⟩;have:=d;rw[kW (by omega)]at this;exact this
def yS (i:Nat):Nat:=if i<144 then 8 else if i<256 then 9 else if i<280 then 7 else if i<288 then 8 else 0
def Fx (a b c d x y z u:Nat):(List.replicate a x++List.replicate b y++List.replicate c z++List.replicate d u).length=a+b+c+d:=by simp only[aN,dQ]
def ae7 (a b c d x y z u i:Nat):(List.replicate a x++List.replicate b y++List.replicate c z++List.replicate d u)[i]?.getD 0=if i<a then x else if i<a+b then y else if i<a+b+c then z else if i<a+b+c+d then u else 0:=by
 by_cases e:i<a
 ·rw[aA e,jA (by simp only[aN,dQ];omega),jA (by simp only[aN,dQ];omega),jA (by simp only[dQ];omega),lY,aA e];rfl
 rw[aB e];by_cases f:i<a+b
 ·rw[aA f,jA (by simp only[aN,dQ];omega),jA (by simp only[aN,dQ];omega),kZ (by simp only[dQ];omega),lY,dQ,aA (by omega)];rfl
 rw[aB f];by_cases j:i<a+b+c
 ·rw[aA j,jA (by simp only[aN,dQ];omega),kZ (by simp only[aN,dQ];omega),lY,aN,dQ,dQ,aA (by omega)];rfl
 rw[aB j,kZ (by simp only[aN,dQ];omega),lY];simp only[aN,dQ];by_cases k:i<a+b+c+d
 ·rw[aA k,aA (by omega)];rfl
 ·rw[aB k,aB (by omega)];rfl
def dP:aW.length=288:=Fx 144 112 24 8 8 9 7 8
def nY (i:Nat):aW[i]?.getD 0=yS i:=ae7 144 112 24 8 8 9 7 8 i
def ap1 (i:Nat):yS i<=9:=by unfold yS;split<;>(try split)<;>(try split)<;>(try split)<;>omega
def a14 (s:Nat):s<=288->dY aW 8 s=min s 144+(s-280):=by
 induction s with
 |zero=>intro _;rfl
 |succ s ih=>
  intro hs;rw[dY,ih (by omega),nY];unfold yS;split
  ·rw[aA rfl];omega
  ·split
   ·rw[aB (by omega)];omega
   ·split
    ·rw[aB (by omega)];omega
    ·split
     ·rw[aA rfl];omega
     ·omega
def Yv (s:Nat):s<=288->dY aW 9 s=min (s-144) 112:=by
 induction s with
 |zero=>intro _;rfl
 |succ s ih=>
  intro hs;rw[dY,ih (by omega),nY];unfold yS;split
  ·rw[aB (by omega)];omega
  ·split
   ·rw[aA rfl];omega
   ·split
    ·rw[aB (by omega)];omega
    ·split
     ·rw[aB (by omega)];omega
     ·omega
def Yo (s:Nat):s<=288->dY aW 7 s=min (s-256) 24:=by
 induction s with
 |zero=>intro _;rfl
 |succ s ih=>
  intro hs;rw[dY,ih (by omega),nY];unfold yS;split
  ·rw[aB (by omega)];omega
  ·split
   ·rw[aB (by omega)];omega
   ·split
    ·rw[aA rfl];omega
    ·split
     ·rw[aB (by omega)];omega
     ·omega
def Aj (l:Nat)(a:1<=l)(b:l≠7)(c:l≠8)(d:l≠9)(s:Nat):dY aW l s=0:=by
 induction s with
 |zero=>rfl
 |succ s ih=>
  rw[dY,ih,nY];unfold yS;split
  ·rw[aB (by omega)]
  ·split
   ·rw[aB (by omega)]
   ·split
    ·rw[aB (by omega)]
    ·split
     ·rw[aB (by omega)]
     ·rw[aB (by omega)]
def aj1 (l:Nat)(a:l<=6):nx aW l=2^l:=by
 induction l with
 |zero=>rfl
 |succ l ih=>rw[nx,ih (by omega),Aj (l+1) (by omega) (by omega) (by omega) (by omega),gW];omega
def an8:nx aW 6=64:=aj1 6 (by omega)
def ai8:nx aW 7=152:=by rw[nx,an8,dP,Yo 288 (by omega)];omega
def ao4:nx aW 8=456:=by rw[nx,ai8,dP,a14 288 (by omega)];omega
def ah7:nx aW 9=1024:=by rw[nx,ao4,dP,Yv 288 (by omega)];omega
def ax2 (k:Nat):nx aW (9+k)=1024*2^k:=by
 induction k with
 |zero=>rw[lN,ah7]
 |succ k ih=>rw[show 9+(k+1)=(9+k)+1 from rfl,nx,ih,Aj _ (by omega) (by omega) (by omega) (by omega),gW];omega
def vX (i:Nat):aW[i]?.getD 0<=15:=by rw[nY];have:=ap1 i;omega
def CW:fF aW=true:=by
 have a:nx aW 15=1024*2^6:=ax2 6;rw[Qo,OB aW vX]at a;have b:iD aW aW.length=32768:=by omega
 unfold fF;rw[b];rfl
def II:fF (List.replicate 32 5)=true:=by decide +kernel
def ak7 (a b d e:Nat):EK [(a,8,144),(b,9,112),(d,7,24),(e,8,8)]=aW.map fun(c:Nat)=>V c:=by simp only[EK,aW,List.flatMap_cons,List.flatMap_nil,sS,List.map_replicate,bG,dB,ci]
def Qm (a b c d:Nat):iP [(a,8,144),(b,9,112),(c,7,24),(d,8,8)] 4=288:=by rfl
def VL (h:∀j u,(L.map fun(c:Nat)=>V c)[j]? =some u->w.cell? (Addr.add (U g 0) j)=some u)(a:∀i:Nat,L[i]?.getD 0<=15)(b:L.length<=1000):Ints w g 0 L:=by refine⟨fun i hi=> ?_,a,b⟩;have:=h i (V (L[i]:Nat)) (by rw[kE,bV hi];rfl);rw[show(Addr.add (U g 0) i)=⟨g,0+i,none⟩ by simp[Addr.add];omega]at this;rw[this,bV hi];rfl
def aa6 (h:w.heap[g]? =some (.cells (ci 5 32).toArray 3 (0,0))):Ints w g 0 (List.replicate 32 5):=by
 refine⟨fun i hi=> ?_,fun i=> ?_,by simp⟩
 ·rw[dQ]at hi;refine aC h (0+i) _ ?_;rw[CZ,lY,aA (by omega),lY,aA hi];rfl
 ·rw[lY];split<;>simp
def Dr (L:aD)(k:Nat)(h:eG L k=0):∀i,i<k->L[i]?.getD 0=0:=by
 induction k with
 |zero=>intro i hi;omega
 |succ k ih=>
  rw[eG]at h;intro i hi;by_cases hk:i=k
  ·subst hk;by_cases a:0<L[i]?.getD 0
   ·rw[aA a]at h;omega
   ·omega
  ·exact ih (by omega) i (by omega)
def Hz (L:aD)(l:Nat)(st:d9)(a:1<=l)(k:Nat)(h:∀i,i<k->L[i]?.getD 0=0):(bR L l st k).longest=st.longest:=by
 induction k with
 |zero=>rfl
 |succ k ih=>
  rw[bR];have:=h k (by omega);rw[aB (by omega)];exact ih (fun i hi=>h i (by omega))
def G9 (L:aD)(h:eG L L.length=0):(aI L).longest=0:=by
 have a:=Dr L L.length h;have:∀l,(bZ L l).longest=0:=by
  intro l;induction l with
  |zero=>rfl
  |succ l ih=>rw[bZ,Hz L (l+1) _ (by omega) L.length a];exact ih
 exact this 15
def aB9 (w w':aH)(v:aK)(D:d9):Prop:=(v= .map none/\D.longest=0)\/∃mb,v= .map (some mb)/\w.heap.size<=mb/\TabAt w' mb D.tab
def Lj (g off cap:Nat)(L:aD)(w:aH)(h:Ints w g off L)(l:p9 L=true):Calls prog 220 #[.slice (some (U g off)) L.length cap] w fun e w'=>∃x,e= .returned (.tuple #[.agg #[.map x,V ((aI L).longest:Nat)],V 0])/\aB9 w w' (.map x) (aI L)/\O w w':=by
 by_cases j:eG L L.length=0
 ·apply(ZX g off cap L w h j).mono;rintro e w' ⟨rfl,hs⟩;have m:=G9 L j;exact⟨none,by rw[m];rfl, .inl ⟨rfl,m⟩,hs⟩
 ·have c:fF L=true:=by
   unfold p9 at l;simpa[j]using l
  have k:((eG L L.length:Nat):Int)≠0:=by omega
  have o:(((eG L L.length:Nat):Int)==0)=false:=aX.2 k;go_enter func220,ntmps220;go_wp2_with fail;obtain⟨w1,a⟩:=aP (w.alloc (.cells #[.map none,V 0] 123));have b:O w w1:=by rw[a];exact(aU _ _).alloc _
  have d:w1.heap[w.heap.size]? =some (.cells #[.map none,V 0] 123 (0,0)):=by rw[a];exact aR _ _
  rw[<-a];clear a;apply(DR g off cap L w1 (h.step b (fun x=>x))).mono;rintro e w2 ⟨rfl,rfl⟩;go_wp2_with fail;apply(vD g off cap L _ (h.step b (fun x=>x)) c).mono;rintro e w3 ⟨mb,rfl,q,i,f⟩;obtain⟨r0,r1,rf0,rf1⟩:=gB (f.at_ d (fun x=>x));have p:=aO d;go_wp2_with fail;refine aY (v:= .tuple #[.agg #[.map (some mb),V ((aI L).longest:Nat)],V 0]) (by simp[results,results220,go_sem,r0,r1]) rfl ⟨some mb,rfl, .inr ⟨mb,rfl,by omega,?_⟩,?_⟩
  ·exact i.of ((cZ _ _ _ _ (by simp;omega)).trans (cZ _ _ _ _ (by simp;omega)))
  ·exact((b.trans f).aZ (by simp) _).aZ (by simp) _
def Mj (g off cap:Nat)(L:aD)(w:aH)(h:Ints w g off L)(i:p9 L=false):Calls prog 220 #[.slice (some (U g off)) L.length cap] w fun e w'=>e= .returned (.tuple #[.agg #[.map none,V 0],V 7])/\O w w':=by
 have j:eG L L.length≠0:=fun x=>by unfold p9 at i;simp[x]at i
 have c:fF L=false:=by
  unfold p9 at i;simpa[j]using i
 have k:(((eG L L.length:Nat):Int)==0)=false:=aX.2 (by omega);go_enter func220,ntmps220;go_wp2_with fail;obtain⟨w1,a⟩:=aP (w.alloc (.cells #[.map none,V 0] 123));have b:O w w1:=by rw[a];exact(aU _ _).alloc _
 have d:w1.heap[w.heap.size]? =some (.cells #[.map none,V 0] 123 (0,0)):=by rw[a];exact aR _ _
 rw[<-a];clear a;apply(DR g off cap L w1 (h.step b (fun x=>x))).mono;rintro e w2 ⟨rfl,rfl⟩;go_wp2_with fail;apply(LJ g off cap L _ (h.step b (fun x=>x)) c).mono;rintro e w3 ⟨rfl,f⟩;obtain⟨r0,r1,rf0,rf1⟩:=gB (f.at_ d (fun x=>x));clear d;go_wp2_with fail;refine aY (v:= .tuple #[.agg #[.map none,V 0],V 7]) (by simp[results,results220,go_sem,r0,r1]) rfl ⟨rfl,?_⟩;exact((b.trans f).aZ (by simp) _).aZ (by simp) _
def yE:aK:= .agg #[.map none,V 0, .map none,V 0]
def ao8 (LS LD:aD)(w:aH)(e:Ending)(w':aH):Prop:=
 ∃mb x,e= .returned (.tuple #[.agg #[.map (some mb),V ((aI LS).longest:Nat), .map x,V ((aI LD).longest:Nat)],V 0])/\w.heap.size<=mb/\TabAt w' mb (aI LS).tab/\aB9 w w' (.map x) (aI LD)
def Y8 (g j u m p:Nat)(LS l:aD)(w:aH)(c:Ints w g j LS)(s:256<LS.length)(a:LS[256]?.getD 0=0):Calls prog 214 #[.slice (some (U g j)) LS.length m, .slice (some (U g u)) l.length p] w fun e w'=>e= .returned (.tuple #[yE,V 7])/\O w w':=by
 have f:=c.cell 256 s;have y:=c.much;obtain⟨q,i⟩:=aP (LS[256]?.getD 0);rw[<-i]at f a;subst a;have t:(256:Int)<(LS.length:Int):=by omega
 clear i;have r:=((aU (fun _=>False) w).alloc (.cells #[.map none,V 0, .map none,V 0] 125)).cell f (fun x=>x);obtain⟨R,d⟩:=aP w.heap.size;have b:O w (w.alloc (.cells #[.map none,V 0, .map none,V 0] 125)):=(aU _ _).alloc _;have k:=hide b;clear b;go_enter func214,ntmps214;go_wp2_with fail;rw[<-d];refine aY (v:= .tuple #[.agg #[.map none,V 0, .map none,V 0],V 7]) (by simp[results,results214,go_sem,d]) rfl ⟨rfl,?_⟩;exact k.o
def Dp (g r G s A:Nat)(LS y:aD)(w:aH)(l:Ints w g r LS)(C:256<LS.length)(c:0<LS[256]?.getD 0)(d:fF LS=false):Calls prog 214 #[.slice (some (U g r)) LS.length s, .slice (some (U g G)) y.length A] w fun e w'=>e= .returned (.tuple #[yE,V 7])/\O w w':=by
 have t:=l.cell 256 C;have J:=l.much;obtain⟨q,u⟩:=aP (LS[256]?.getD 0);rw[<-u]at t c;have F:((q:Int)==0)=false:=aX.2 (by omega);have D:(256:Int)<(LS.length:Int):=by omega
 clear u;have B:=((aU (fun _=>False) w).alloc (.cells #[.map none,V 0, .map none,V 0] 125)).cell t (fun x=>x);go_enter func214,ntmps214;go_wp2_with fail;obtain⟨R,m⟩:=aP w.heap.size;have i:O w (w.alloc (.cells #[.map none,V 0, .map none,V 0] 125)):=(aU _ _).alloc _;have p:(w.alloc (.cells #[.map none,V 0, .map none,V 0] 125)).heap[R]? =some (.cells #[.map none,V 0, .map none,V 0] 125 (0,0)):=by rw[m];exact aR _ _
 have b:w.heap.size<=R:=by omega
 rw[<-m];generalize w.alloc (.cells #[.map none,V 0, .map none,V 0] 125)=w1 at*;clear m;apply(LJ g r s LS w1 (l.step i (fun x=>x)) d).mono;rintro e w2 ⟨rfl,j⟩;have f:=j.at_ p (fun x=>x);have a:∀o,(w2.alloc o).heap[R]? =some (.cells #[.map none,V 0, .map none,V 0] 125 (0,0)):=fun o=>(dG w2 o _ (aO f)).trans f;have b0:∀o,(w2.alloc o).cell? (U R 0)=some (.map none):=fun o=>aC (a o) 0 _ rfl;have b1:∀o,(w2.alloc o).cell? (U R 1)=some (V 0):=fun o=>aC (a o) 1 _ rfl;have b2:∀o,(w2.alloc o).cell? (U R 2)=some (.map none):=fun o=>aC (a o) 2 _ rfl;have z:∀o,(w2.alloc o).cell? (U R 3)=some (V 0):=fun o=>aC (a o) 3 _ rfl;have H:∀o,(w2.alloc o).frozen? (U R 0)=false:=fun o=>aJ (a o) 0;have f1:∀o,(w2.alloc o).frozen? (U R 1)=false:=fun o=>aJ (a o) 1;have f2:∀o,(w2.alloc o).frozen? (U R 2)=false:=fun o=>aJ (a o) 2;have I:∀o,(w2.alloc o).frozen? (U R 3)=false:=fun o=>aJ (a o) 3;have k:=hide (i.trans j);go_wp2_with fail;refine aY (v:= .tuple #[.agg #[.map none,V 0, .map none,V 0],V 7]) (by simp[results,results214,go_sem,b0,b1,b2,z]) rfl ⟨rfl,?_⟩;exact((((k.o.alloc _).aZ b _).aZ b _).aZ b _).aZ b _
def Az (g y z A B:Nat)(LS r:aD)(w:aH)(t:Ints w g y LS)(I:Ints w g z r)(N:256<LS.length)(j:0<LS[256]?.getD 0)(k:fF LS=true)(M:p9 r=false):Calls prog 214 #[.slice (some (U g y)) LS.length A, .slice (some (U g z)) r.length B] w fun e w'=>e= .returned (.tuple #[yE,V 7])/\O w w':=by
 have C:=t.cell 256 N;have hm:=t.much;obtain⟨q,F⟩:=aP (LS[256]?.getD 0);rw[<-F]at C j;have T:((q:Int)==0)=false:=aX.2 (by omega);have P:(256:Int)<(LS.length:Int):=by omega
 clear F;have K:=((aU (fun _=>False) w).alloc (.cells #[.map none,V 0, .map none,V 0] 125)).cell C (fun x=>x);go_enter func214,ntmps214;go_wp2_with fail;obtain⟨R,u⟩:=aP w.heap.size;have c:O w (w.alloc (.cells #[.map none,V 0, .map none,V 0] 125)):=(aU _ _).alloc _;have l:(w.alloc (.cells #[.map none,V 0, .map none,V 0] 125)).heap[R]? =some (.cells #[.map none,V 0, .map none,V 0] 125 (0,0)):=by rw[u];exact aR _ _
 have b:w.heap.size<=R:=by omega
 rw[<-u];generalize w.alloc (.cells #[.map none,V 0, .map none,V 0] 125)=w1 at*;clear u;apply(vD g y A LS w1 (t.step c (fun x=>x)) k).mono;rintro e w2 ⟨mb,rfl,Q,G,d⟩;have D:=c.size;go_wp2_with fail;obtain⟨w3,i⟩:=aP (w2.alloc (.cells #[.map (some mb),V ((aI LS).longest:Nat)] 123));have f:O w2 w3:=by rw[i];exact(aU _ _).alloc _
 have W:w3.heap[w2.heap.size]? =some (.cells #[.map (some mb),V ((aI LS).longest:Nat)] 123 (0,0)):=by rw[i];exact aR _ _
 rw[<-i];apply(Mj g z B r w3 (((I.step c (fun x=>x)).step d (fun x=>x)).step f (fun x=>x)) M).mono;rintro e w4 ⟨rfl,p⟩;have m:=p.at_ (f.at_ (d.at_ l (fun x=>x)) (fun x=>x)) (fun x=>x);have a:∀o,(w4.alloc o).heap[R]? =some (.cells #[.map none,V 0, .map none,V 0] 125 (0,0)):=fun o=>(dG w4 o _ (aO m)).trans m;have b0:∀o,(w4.alloc o).cell? (U R 0)=some (.map none):=fun o=>aC (a o) 0 _ rfl;have b1:∀o,(w4.alloc o).cell? (U R 1)=some (V 0):=fun o=>aC (a o) 1 _ rfl;have b2:∀o,(w4.alloc o).cell? (U R 2)=some (.map none):=fun o=>aC (a o) 2 _ rfl;have H:∀o,(w4.alloc o).cell? (U R 3)=some (V 0):=fun o=>aC (a o) 3 _ rfl;have Y:∀o,(w4.alloc o).frozen? (U R 0)=false:=fun o=>aJ (a o) 0;have f1:∀o,(w4.alloc o).frozen? (U R 1)=false:=fun o=>aJ (a o) 1;have f2:∀o,(w4.alloc o).frozen? (U R 2)=false:=fun o=>aJ (a o) 2;have Z:∀o,(w4.alloc o).frozen? (U R 3)=false:=fun o=>aJ (a o) 3;have s:=hide ((c.trans d).trans (f.trans p));have X:=d.size;have J:=aO l;have S:¬w2.heap.size=R:=by omega
 go_wp2_with fail;refine aY (v:= .tuple #[.agg #[.map none,V 0, .map none,V 0],V 7]) (by simp[results,results214,go_sem,b0,b1,b2,H]) rfl ⟨rfl,?_⟩;exact((((s.o.alloc _).aZ b _).aZ b _).aZ b _).aZ b _
def ZH (g H I J K:Nat)(LS l:aD)(w:aH)(C:Ints w g H LS)(X:Ints w g I l)(hl:256<LS.length)(s:0<LS[256]?.getD 0)(u:fF LS=true)(hf:p9 l=true):Calls prog 214 #[.slice (some (U g H)) LS.length J, .slice (some (U g I)) l.length K] w fun e w'=>ao8 LS l w e w'/\O w w':=by
 have M:=C.cell 256 hl;have hm:=C.much;obtain⟨q,Q⟩:=aP (LS[256]?.getD 0);rw[<-Q]at M s;have af:((q:Int)==0)=false:=aX.2 (by omega);have ab:(256:Int)<(LS.length:Int):=by omega
 clear Q;have aa:=((aU (fun _=>False) w).alloc (.cells #[.map none,V 0, .map none,V 0] 125)).cell M (fun x=>x);go_enter func214,ntmps214;go_wp2_with fail;obtain⟨R,D⟩:=aP w.heap.size;have j:O w (w.alloc (.cells #[.map none,V 0, .map none,V 0] 125)):=(aU _ _).alloc _;have y:(w.alloc (.cells #[.map none,V 0, .map none,V 0] 125)).heap[R]? =some (.cells #[.map none,V 0, .map none,V 0] 125 (0,0)):=by rw[D];exact aR _ _
 have f:w.heap.size<=R:=by omega
 rw[<-D];generalize w.alloc (.cells #[.map none,V 0, .map none,V 0] 125)=w1 at*;clear D;apply(vD g H J LS w1 (C.step j (fun x=>x)) u).mono;rintro e w2 ⟨mb,rfl,ad,m,k⟩;have N:=j.size;go_wp2_with fail;obtain⟨w3,p⟩:=aP (w2.alloc (.cells #[.map (some mb),V ((aI LS).longest:Nat)] 123));have c:O w2 w3:=by rw[p];exact(aU _ _).alloc _
 have z:w3.heap[w2.heap.size]? =some (.cells #[.map (some mb),V ((aI LS).longest:Nat)] 123 (0,0)):=by rw[p];exact aR _ _
 rw[<-p];apply(Lj g I K l w3 (((X.step j (fun x=>x)).step k (fun x=>x)).step c (fun x=>x)) hf).mono;rintro e w4 ⟨x,rfl,t,d⟩;have Y:=aO z;have i:=(d.at_ z (fun x=>x))
 have A:=d.at_ (c.at_ (k.at_ y (fun x=>x)) (fun x=>x)) (fun x=>x);have a0:∀o,(w4.alloc o).cell? (U w2.heap.size 0)=some (.map (some mb)):=fun o=>aC ((dG w4 o _ (aO i)).trans i) 0 _ rfl;have a1:∀o,(w4.alloc o).cell? (U w2.heap.size 1)=some (V ((aI LS).longest:Nat)):=fun o=>aC ((dG w4 o _ (aO i)).trans i) 1 _ rfl;have b:∀o,(w4.alloc o).heap[R]? =some (.cells #[.map none,V 0, .map none,V 0] 125 (0,0)):=fun o=>(dG w4 o _ (aO A)).trans A;have b0:∀o,(w4.alloc o).cell? (U R 0)=some (.map none):=fun o=>aC (b o) 0 _ rfl;have b1:∀o,(w4.alloc o).cell? (U R 1)=some (V 0):=fun o=>aC (b o) 1 _ rfl;have b2:∀o,(w4.alloc o).cell? (U R 2)=some (.map none):=fun o=>aC (b o) 2 _ rfl;have S:∀o,(w4.alloc o).cell? (U R 3)=some (V 0):=fun o=>aC (b o) 3 _ rfl;have f0:∀o,(w4.alloc o).frozen? (U R 0)=false:=fun o=>aJ (b o) 0;have f1:∀o,(w4.alloc o).frozen? (U R 1)=false:=fun o=>aJ (b o) 1;have f2:∀o,(w4.alloc o).frozen? (U R 2)=false:=fun o=>aJ (b o) 2;have f3:∀o,(w4.alloc o).frozen? (U R 3)=false:=fun o=>aJ (b o) 3;have F:O w w4:=(j.trans k).trans (c.trans d);have hz:w4.heap.size>=w3.heap.size:=d.size;have ag:=k.size;have ah:=c.size;have Z:=aO y;have P:=m.lt;have r:=hide (c.trans d);have ae:¬w2.heap.size=R:=by omega
 go_wp2_with fail;refine aY (v:= .tuple #[.agg #[.map (some mb),V ((aI LS).longest:Nat), .map x,V ((aI l).longest:Nat)],V 0]) (by simp[results,results214,go_sem,b0,b1,b2,S]) rfl ⟨⟨mb,x,rfl,by omega,?_,?_⟩,?_⟩
 ·have W:=m.step r.o (fun x=>x);have B:=W.step ((aU (fun _=>False) w4).alloc (.cells #[.map x,V ((aI l).longest:Nat)] 123)) (fun x=>x);have a:mb≠R:=by omega
  exact(((B.of (cZ _ _ _ _ a)).of (cZ _ _ _ _ a)).of (cZ _ _ _ _ a)).of (cZ _ _ _ _ a)
 ·rcases t with h|⟨m2,T,ac,G⟩
  ·exact .inl h
  ·have B:=G.step ((aU (fun _=>False) w4).alloc (.cells #[.map x,V ((aI l).longest:Nat)] 123)) (fun x=>x);have a:m2≠R:=(by omega);exact .inr ⟨m2,T,by omega,(((B.of (cZ _ _ _ _ a)).of (cZ _ _ _ _ a)).of (cZ _ _ _ _ a)).of (cZ _ _ _ _ a)⟩
 ·exact((((F.alloc _).aZ f _).aZ f _).aZ f _).aZ f _
def Ig (g b c d f:Nat)(LS a:aD)(w:aH)(l:Ints w g b LS)(o:Ints w g c a)(m:256<LS.length):Calls prog 214 #[.slice (some (U g b)) LS.length d, .slice (some (U g c)) a.length f] w fun e w'=>(0<LS[256]?.getD 0/\fF LS=true/\p9 a=true/\ao8 LS a w e w'/\O w w')\/(¬(0<LS[256]?.getD 0/\fF LS=true/\p9 a=true)/\e= .returned (.tuple #[yE,V 7])/\O w w'):=by
 by_cases i:0<LS[256]?.getD 0
 ·by_cases j:fF LS=true
  ·by_cases k:p9 a=true
   ·exact(ZH g b c d f LS a w l o m i j k).mono fun e w' h=> .inl ⟨i,j,k,h.1,h.2⟩
   ·exact(Az g b c d f LS a w l o m i j (by simpa using k)).mono fun e w' h=> .inr ⟨fun x=>k x.2.2,h.1,h.2⟩
  ·exact(Dp g b c d f LS a w l m i (by simpa using j)).mono fun e w' h=> .inr ⟨fun x=>j x.2.1,h.1,h.2⟩
 ·exact(Y8 g b c d f LS a w l m (by omega)).mono fun e w' h=> .inr ⟨fun x=>i x.1,h.1,h.2⟩
def an6 (r:R (aD×aD))(f:Nat)(w:aH)(e:Ending)(w':aH):Prop:=
 match r with
 | .ok ab q=>ao8 ab.1 ab.2 w e w'/\lV f w w' q
 | .no x=>e= .returned (.tuple #[yE,V (x:Nat)])/\∃q,lV f w w' q
 | .miss=>e=lost/\∃q,lV f w w' q
def VK (B:aD)(p c:Nat):∀k s,(aI (bD B p c)).tab k=some s->s<19:=by intro k s h;have:=((l8 (bD B p c) 15 k s).1 h).1;rw[jD]at this;exact this
def AY (B:aD)(p:Nat)(h:¬p+14<=8*B.length):bW B p= .miss:=by unfold bW;rw[aB h]
def Qb (B:aD)(p a b c:Nat):R (aD×aD):=
 if 286<a\/30<b then .no 7
 else if p+3*c<=8*B.length then
  (if fF (bD B p c)=true then
   (match NM (aI (bD B p c)) B (a+b) (p+3*c)with
   | .ok row q=>pI row a q
   | .no e=> .no e
   | .miss=> .miss)
  else .no 7)
 else .miss
def Gq (B:aD)(p:Nat)(h:p+14<=8*B.length):bW B p=Qb B (p+14) (aG B p 5+257) (aG B (p+5) 5+1) (aG B (p+10) 4+4):=by unfold bW;rw[aA h];rfl
def lV.sets {f:Nat}{w7 w8:aH}{q R:Nat}{l m o p:aK}(h:lV f w w7 q)(hs:O w7 w8)(a:w.heap.size<=R)(i:¬R=f):lV f w ((((w8.setCell (U R 0) l).setCell (U R 1) m).setCell (U R 2) o).setCell (U R 3) p) q:=by have b:f≠R:=fun e=>i e.symm;have j:Step (·=f) w7 w8:=hs.mono (fun _ x=>x.elim);refine⟨((((h.step.trans j).aZ a _).aZ a _).aZ a _).aZ a _,fun s x r t k=> ?_⟩;have c:=h.feed s x r t k;have d:=hs.at_ c (fun x=>x);exact(cZ _ _ _ _ b).trans ((cZ _ _ _ _ b).trans ((cZ _ _ _ _ b).trans ((cZ _ _ _ _ b).trans d)))
def mV {R:Nat}(h:w.heap[R]? =some (.cells #[.map none,V 0, .map none,V 0] 125 (0,0))):(w.cell? (U R 0)=some (.map none)/\w.cell? (U R 1)=some (V 0)/\w.cell? (U R 2)=some (.map none)/\w.cell? (U R 3)=some (V 0))/\w.frozen? (U R 0)=false/\w.frozen? (U R 1)=false/\w.frozen? (U R 2)=false/\w.frozen? (U R 3)=false:=⟨⟨aC h 0 _ rfl,aC h 1 _ rfl,aC h 2 _ rfl,aC h 3 _ rfl⟩,aJ h 0,aJ h 1,aJ h 2,aJ h 3⟩
def Un {R:Nat}(h:w.heap[R]? =some (.cells #[.map none,V 0, .map none,V 0] 125 (0,0))):(∀o,(w.alloc o).cell? (U R 0)=some (.map none))/\(∀o,(w.alloc o).cell? (U R 1)=some (V 0))/\(∀o,(w.alloc o).cell? (U R 2)=some (.map none))/\(∀o,(w.alloc o).cell? (U R 3)=some (V 0))/\(∀o,(w.alloc o).frozen? (U R 0)=false)/\(∀o,(w.alloc o).frozen? (U R 1)=false)/\(∀o,(w.alloc o).frozen? (U R 2)=false)/\(∀o,(w.alloc o).frozen? (U R 3)=false):=by have a:∀o,(w.alloc o).heap[R]? =_:=fun o=>(dG w o _ (aO h)).trans h;exact⟨fun o=>(mV (a o)).1.1,fun o=>(mV (a o)).1.2.1,fun o=>(mV (a o)).1.2.2.1,fun o=>(mV (a o)).1.2.2.2,fun o=>(mV (a o)).2.1,fun o=>(mV (a o)).2.2.1,fun o=>(mV (a o)).2.2.2.1,fun o=>(mV (a o)).2.2.2.2⟩
end Go.Proofs.YtbpahojchgpdnaaGreatDoor
