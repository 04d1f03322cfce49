import Derived.Test.YtbpahojchgpdnaaGreatDoorFrame
set_option maxRecDepth 20000
set_option maxHeartbeats 4000000
set_option linter.all false
namespace Go.Proofs.YtbpahojchgpdnaaGreatDoor
open Go.RowKit Go.dM Go.Proofs.Tryz
def nI.step {S:Nat->Prop}{w w':aH}{k off:Nat}{xs:aD}(h:nI w k off xs)(hs:Step S w w')(hn:¬S k):nI w' k off xs:=fun i hi=>hs.cell (p:=⟨k,off+i,none⟩) (h i hi) hn
def round (P:aD)(n:Nat):aD:=(List.range n).map fun i=>P[i%P.length]?.getD 0
def jV (P:aD)(n:Nat):(round P n).length=n:=by simp[round]
def RX (P:aD):round P P.length=P:=by
 apply wL;intro i;by_cases hi:i<P.length
 ·rw[bV (by simpa[round]using hi),bV hi];simp[round,kC hi,bV hi]
 ·rw[fZ (by simpa[round]using hi),fZ (by omega)]
def H7 (P:aD)(k:Nat):round P (k*P.length)++round P (k*P.length)=round P (2*k*P.length):=by
 apply wL;intro i;have e:2*k*P.length=k*P.length+k*P.length:=by rw[vK];omega
 by_cases hi:i<k*P.length
 ·rw[jA (by rw[jV];exact hi)];simp[round,hi,show i<2*k*P.length by omega]
 ·rw[kZ (by rw[jV];omega),jV];by_cases b:i<2*k*P.length
  ·have a:i-k*P.length<k*P.length:=(by omega);have c:(i-k*P.length)%P.length=i%P.length:=by
    have:i=(i-k*P.length)+P.length*k:=(by rw[nH P.length k];omega);conv=>rhs;rw[this]
    rw[Nat.add_mul_mod_self_left]
   simp[round,a,b,c]
  ·have a:¬i-k*P.length<k*P.length:=(by omega);rw[fZ (by rw[jV];omega),fZ (by rw[jV];omega)]
def PU (P:aD)(n m:Nat)(h:m<=n):(round P n).take m=round P m:=by
 apply wL;intro i;by_cases hi:i<m
 ·rw[jQ hi];simp[round,hi,show i<n by omega]
 ·rw[fZ (by simp[round];omega),fZ (by rw[jV];omega)]
def VR (k off n len:Nat)(P:aD)(w:aH)(hP:nI w k off P)(hn:P.length=n)(ac:1<=n)(ad:n<=32768)(aa:1<=len)(ab:len<=300):Calls prog 203 #[.slice (some (U k off)) n n,V len] w fun e w'=>∃k' y c,e= .returned (.slice (some ⟨k',y,none⟩) len c)/\len<=c/\nI w' k' y (round P len)/\O w w':=by
 obtain⟨i0,hi,B,C,D⟩:=eD info5;go_enter func203,ntmps203;go_wp2_with fail;go_loopw [0] (fun v wr=>(v= .slice (some (U k off)) n n/\wr=w)\/∃j g cap,1<=j/\j*n<=600/\v= .slice (some (U g 0)) (j*n) cap/\wr.ownsRow w.heap.size 5 1 v (j*n) (jR (round P (j*n)))/\O w wr) (fun v _=>len-(match v with| .slice _ m _=>m|_=>0));case atStart=>exact .inl ⟨rfl,rfl⟩
 case round=>
  rcases hrel with⟨rfl,hw⟩|⟨j,g,cap,N,Q,rfl,a,r⟩
  ·have Y:=hw.symm;subst Y;by_cases R:n<len
   ·have p:=hP.news;have s:(jR P).length=n*1:=(by simp[hn]);go_wp2_with (at_builtin;refine wpList_append_grows _ rfl _ _ 31 rfl 5 i0 (.int .u8 0) 1 1 underlying31 hi B C D rfl (by decide) (some (U k off)) n n (jR P) rfl (fun h=>by cases h) s (fun b hb=>by cases hb;exact p) (U k off) n n (jR P) rfl s p (yK P) (by omega) (by unfold maxLen;omega) (by omega) ?_;intro v' w' a t);have r:O w w':=(aU _ w).grown t (fun k hk=>by cases hk);have d:w'.ownsRow w.heap.size 5 1 v' (2*n) (jR (round P (2*n))):=by
     have H:jR P++jR P=jR (round P (2*n)):=by
      have l:=H7 P 1;rw[wJ,RX,wT,hn]at l;rw[<-l];simp[jR]
     rw[<-H,show 2*n=n+n by omega];exact a
    obtain⟨g,cap,z⟩:∃g cap,v'= .slice (some (U g 0)) (2*n) cap:=by
     obtain⟨_,⟨_,hz⟩|⟨g,cap,G,z,_⟩⟩:=d
     ·omega
     ·exact⟨g,cap,z⟩
    subst z;go_wp2_with fail;go_roundw;case rel=>exact .inr ⟨2,g,cap,by omega,by omega,rfl,d,r⟩
    case measure=>dsimp only;omega
   ·have K:(0:Int)<=(len:Int):=(by omega);have L:(len:Int)<=(n:Int):=(by omega);have S:¬len=0:=(by omega);go_wp2_with fail;go_ret;refine⟨k,off,n,rfl,by omega,?_,aU _ _⟩;have l:=hP.take len;have e:P.take len=round P len:=by
     have Z:=PU P P.length len (by have:=hn;omega);rw[RX]at Z;exact Z
    rw[e]at l;exact l
  ·have A:j*n<=cap:=by
    obtain⟨_,⟨z,_⟩|⟨J,c,G,z,_,_,W,_⟩⟩:=a
    ·cases z
    ·cases z;exact W
   have f:nI wr g 0 (round P (j*n)):=fun i hi=>by
    rw[jV]at hi;have h9:=a.cellAt i (by omega);rw[dS,h9];exact qM _ _ (by rw[jV];exact hi)
   have M:j*n>=n:=Nat.le_mul_of_pos_left n N;obtain⟨m,T⟩:=aP (j*n);rw[<-T]at A f a Q M|-
   have F:=hide T;have X:=r.size;clear T;by_cases R:m<len
   ·have s:(jR (round P m)).length=m*1:=(by simp[jV]);go_wp2_with (at_builtin;refine fQ _ rfl _ _ 31 rfl w.heap.size 5 i0 (.int .u8 0) 1 1 underlying31 hi B C D rfl (by decide) _ m (jR (round P m)) rfl (by exact a) (U g 0) m cap (jR (round P m)) rfl s (by exact f.news) (yK _) (by omega) (by unfold maxLen;omega) (by omega) X ?_);intro J c w' q t hg;have u:O w w':=r.grown t (fun x hx=> .inr (a.lt x hx).1);have d:w'.ownsRow w.heap.size 5 1 (.slice (some (U J 0)) (2*j*n) c) (2*j*n) (jR (round P (2*j*n))):=by
     have H:jR (round P m)++jR (round P m)=jR (round P (2*j*n)):=by
      have l:=H7 P j;rw[hn,<-F.o]at l;rw[<-l];simp[jR]
     rw[<-H,show 2*j*n=m+m by rw[vK,<-F.o];omega];exact q
    have H3:=hide u;have I:m+m=2*j*n:=(by rw[vK,<-F.o];omega);clear q u t hg s;rw[I];go_wp2_with fail;go_roundw;case rel=>exact .inr ⟨2*j,J,c,by omega,by have:=I;omega,rfl,d,H3.o⟩
    case measure=>dsimp only;have:=I;omega
   ·have K:(0:Int)<=(len:Int):=(by omega);have L:(len:Int)<=(cap:Int):=(by omega);have S:¬len=0:=(by omega);go_wp2_with fail;go_ret;refine⟨g,0,cap,rfl,by omega,?_,r⟩;have l:=f.take len;rw[PU P m len (by omega)]at l;exact l
def FI (d f base:Nat)(st:iH)(w:aH)(h:Dec w d f base st)(D:st.out.length<=1048576):Calls prog 152 #[.pointer (some (U d 1))] w fun e w'=>w'=w/\∃a,e= .returned (.slice a (min st.out.length 32768) (min st.out.length 32768))/\(0<st.out.length->∃g,a=some ⟨g,st.out.length-min st.out.length 32768,none⟩/\nI w g 0 st.out):=by
 obtain⟨_,c1,_⟩:=h.cell;obtain⟨r,⟨c,hn⟩|⟨g,s,t,c,C,hh,z,x,y,A⟩⟩:=h.own
 ·rw[c]at c1;rw[hn];go_enter func152,ntmps152;go_wp2_with fail;go_ret;exact⟨rfl,none,rfl,fun h=>by omega⟩
 ·have b:nI w g 0 st.out:=fun i hi=>by
   have p:=h.own;rw[c]at p;have j:=p.cellAt i (by omega);rw[dS,j];exact qM _ _ hi
  rw[c]at c1;have m:=hide b;generalize B:st.out.length=n at*;by_cases q:32768<n
  ·have e:min n 32768=32768:=(by omega);obtain⟨l,r⟩:∃l,n=l+32768:=⟨n-32768,by omega⟩
   subst r;have v:(0:Int)<=(l:Int):=(by omega);have u:l+32768-32768=l:=(by omega);have k:max (0:Int) (l:Int)=(l:Int):=(by omega);rw[e,u];go_enter func152,ntmps152;go_wp2_with fail;rw[show l+32768-l=32768 by omega];go_ret;exact⟨rfl,some (U g l),rfl,fun _=>⟨g,rfl,m.o⟩⟩
  ·have e:min n 32768=n:=(by omega);have k:max (0:Int) ((n:Int)-32768)=0:=(by omega);rw[e,uL];go_enter func152,ntmps152;go_wp2_with fail;go_ret;exact⟨rfl,some (U g 0),rfl,fun _=>⟨g,rfl,m.o⟩⟩
end Go.Proofs.YtbpahojchgpdnaaGreatDoor
