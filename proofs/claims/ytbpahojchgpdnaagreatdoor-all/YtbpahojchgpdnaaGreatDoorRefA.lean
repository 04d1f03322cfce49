import Derived.Test.YtbpahojchgpdnaaGreatDoorLaw
import Derived.Test.YtbpahojchgpdnaaGreatDoorGzipB
set_option maxRecDepth 20000
set_option maxHeartbeats 4000000
set_option linter.all false
namespace Go.Proofs.YtbpahojchgpdnaaGreatDoor
open Go.RowKit Go.dM Go.Proofs.Tryz
variable {c e i n:Nat}
def eO (bad:Bool)(e:Nat)(s:XS):XS:=if s.err=0/\bad=true then{ s with err:=e }else s
def Ic (a:Bool)(e:Nat)(s:XS):(eO a e s).v=s.v/\(eO a e s).out=s.out/\(eO a e s).name=s.name/\(eO a e s).most=s.most/\(eO a e s).at_=s.at_:=by
 unfold eO;by_cases h:s.err=0/\a=true
 ·rw[aA h];exact⟨rfl,rfl,rfl,rfl,rfl⟩
 ·rw[aB h];exact⟨rfl,rfl,rfl,rfl,rfl⟩
def iG {a:Bool}{s:XS}(h:s.err≠0):eO a e s=s:=by unfold eO;rw[aB (fun x=>h x.1)]
def mY {s:XS}:eO false e s=s:=by unfold eO;rw[aB (fun x=>by cases x.2)]
def jF {s:XS}(h:s.err=0):eO true e s={ s with err:=e }:=by unfold eO;rw[aA ⟨h,rfl⟩]
def qX (b:bY)(s:XS):XS:=eO (!decide (vT (cB b s 8).1)) 4 (cB b s 8).2
def o7 (b:bY)(s:XS):XS:=eO (!decide (zC (cB b s 8).1 (cB b (qX b s) 8).1)) 4 (cB b (qX b s) 8).2
def az7 (c y:Nat)(a:Bool)(h:a=(!decide (zC c y))):(a=true/\y/32%2=1)\/(a=true/\y/32%2=0/\¬(256*c+y)%31=0)\/(a=false/\y/32%2=0/\(256*c+y)%31=0):=by
 by_cases d:y/32%2=0
 ·by_cases f:(256*c+y)%31=0
  ·exact .inr (.inr ⟨by rw[h,eU (show zC c y from⟨d,f⟩)];rfl,d,f⟩)
  ·exact .inr (.inl ⟨by rw[h,fT (fun x=>f x.2)];rfl,d,f⟩)
 ·exact .inl ⟨by rw[h,fT (fun x=>d x.1)];rfl,by omega⟩
def V5 (x base:Nat)(b:bY)(s:XS)(w:aH)(h:j6 w x base b s):Calls prog 112 #[E x] w fun r w'=>r= .returned (.tuple #[])/\j6 w' x base b (o7 b s)/\dH x w s.v w' s.v:=by
 have l:=(pW b s 8).1;have Y:(cB b s 8).1<256:=jM b s 8;have I:=hide (show∀k,k=eO (!decide (vT (cB b s 8).1)) 4 (cB b s 8).2->o7 b s=eO (!decide (zC (cB b s 8).1 (cB b k 8).1)) 4 (cB b k 8).2 from fun k hs=>by rw[hs];rfl);have S:=hide (gD x base 8 b s w h (by omega));generalize cB b s 8=L at*;obtain⟨c,f⟩:=L;dsimp only at l Y I S;have D:(¬f.err=0/\eO (!decide (vT c)) 4 f=f)\/(f.err=0/\¬c%16=8/\eO (!decide (vT c)) 4 f={ f with err:=4 })\/(f.err=0/\c%16=8/\7<c/16/\eO (!decide (vT c)) 4 f={ f with err:=4 })\/(f.err=0/\c%16=8/\¬7<c/16/\eO (!decide (vT c)) 4 f=f):=by
  by_cases g:f.err=0
  ·by_cases p:c%16=8
   ·by_cases t:7<c/16
    ·exact .inr (.inr (.inl ⟨g,p,t,by rw[fT (fun x=>by have:=x.2;omega)];exact jF g⟩))
    ·exact .inr (.inr (.inr ⟨g,p,t,by rw[eU (show vT c from⟨p,by omega⟩)];exact mY⟩))
   ·exact .inr (.inl ⟨g,p,by rw[fT (fun x=>p x.1)];exact jF g⟩)
  ·exact .inl ⟨g,iG g⟩
 go_enter func112,ntmps112;go_wp2_with fail;apply S.o.mono;rintro r w1 ⟨rfl,p,F⟩;obtain⟨_,_,e1,_⟩:=p.cell;have d:=hide (show∀(k:XS) (w2:aH),j6 w2 x base b k->k.v=s.v->k=eO (!decide (vT c)) 4 f->dH x w s.v w2 s.v->Calls prog 140 #[E x,V 8] w2 fun r w'=>∃(y:Nat) (A:XS) (q:Bool),r= .returned (V y)/\y<256/\q=(!decide (zC c y))/\j6 w' x base b A/\o7 b s=eO q 4 A/\A.v=s.v/\dH x w s.v w' s.v from fun k w2 t X hs Z=>by
  apply(gD x base 8 b k w2 t (by omega)).mono;rintro r w3 ⟨rfl,B,z⟩;rw[X]at z;exact⟨_,_,_,rfl,jM b k 8,rfl,B,I.o k hs,(pW b k 8).1.trans X,Z.trans z⟩)
 rcases D with⟨g,H⟩|⟨g,W,H⟩|⟨g,W,C,H⟩|⟨g,W,C,H⟩
 focus
  have u:((f.err:Int)==0)=false:=aX.2 (by omega);have N:=hide (d.o f w1 p l H.symm F);go_wp2_with fail
 rotate_left 3;focus
  have u:((f.err:Int)==0)=true:=dI.2 (by omega);have P:(c:Int)%16=8:=by omega
  have T:¬7<(c:Int)/16:=by omega
  have N:=hide (d.o f w1 p l H.symm F);go_wp2_with fail
 rotate_left 2;iterate 2
  focus
   have u:((f.err:Int)==0)=true:=dI.2 (by omega);first
    |have T:((c:Int)%16 !=8)=true:=jP.2 (by omega)
    |have P:(c:Int)%16=8:=by omega
     have T:7<(c:Int)/16:=by omega
   have G:=hide (iK x base 4 b f w1 p);go_wp2_with fail;apply G.o.mono;rintro r w2 ⟨rfl,t,m⟩;rw[aA g]at t;rw[l]at m;have N:=hide (d.o _ w2 t l H.symm (F.trans m));go_wp2_with fail
  rotate_left
 all_goals
  apply N.o.mono;rintro r w5 ⟨y,A,q,rfl,hy,J,B,hz,R,z⟩;have a:=hide (aQ hz (aQ z R));obtain⟨_,_,e3,_⟩:=B.cell;have Q:=az7 c y q J;by_cases g:A.err=0
  ·have u:((A.err:Int)==0)=true:=dI.2 (by omega);rcases Q with⟨C,k1⟩|⟨C,k1,k2⟩|⟨C,k1,k2⟩
   focus
    have L:(y:Int)/32%2=1:=(by omega);rw[C,jF g]at a;have G:=hide (iK x base 4 b A w5 B);rw[aA g]at G
   rotate_left;focus
    have L:(y:Int)/32%2=0:=(by omega);have q2:((256*(c:Int)+(y:Int))%31 !=0)=true:=jP.2 (by omega);rw[C,jF g]at a;have G:=hide (iK x base 4 b A w5 B);rw[aA g]at G
   rotate_left
   ·have L:(y:Int)/32%2=0:=(by omega);have q2:(256*(c:Int)+(y:Int))%31=0:=(by omega);rw[C,mY]at a;have j:=hide (show j6 w5 x base b (o7 b s)/\dH x w s.v w5 s.v from⟨by rw[a.o.1];exact B,a.o.2.1⟩);go_wp2_with fail;go_end0;exact⟨rfl,j.o⟩
   all_goals
    go_wp2_with fail;apply G.o.mono;rintro r w2 ⟨rfl,t,m⟩;rw[a.o.2.2]at m;have j:=hide (show j6 w2 x base b (o7 b s)/\dH x w s.v w2 s.v from⟨by rw[a.o.1];exact t,a.o.2.1.trans m⟩);go_wp2_with fail;go_end0;exact⟨rfl,j.o⟩
  ·have u:((A.err:Int)==0)=false:=aX.2 (by omega);rw[iG g]at a;have j:=hide (show j6 w5 x base b (o7 b s)/\dH x w s.v w5 s.v from⟨by rw[a.o.1];exact B,a.o.2.1⟩);go_wp2_with fail;go_end0;exact⟨rfl,j.o⟩
def xC (out:aD)(h:iR out):bytesOf (strOf out)=out:=by
 unfold bytesOf strOf;rw[strOfNums_data,List.map_map,List.map_map];conv=>rhs;rw[<-List.map_id out]
 refine IY fun x a=> ?_;have:=h x a;simp;omega
def qW (out:aD):(strOf out).size=out.length:=by unfold strOf;rw[strOfNums_size,nG]
def nQ (b:bY)(s:XS):Nat->Nat×XS
 |0=>(0,s)
 |n+1=>((nQ b s n).1*256+(cB b (nQ b s n).2 8).1,(cB b (nQ b s n).2 8).2)
def KN (b:bY)(s:XS)(n:Nat):nQ b s (n+1)=((nQ b s n).1*256+(cB b (nQ b s n).2 8).1,(cB b (nQ b s n).2 8).2):=by rw[nQ]
def PI (b:bY)(s:XS)(n:Nat):(nQ b s (n+1)).1=(nQ b s n).1*256+(cB b (nQ b s n).2 8).1:=by rw[KN]
def JH (b:bY)(s:XS)(n:Nat):(nQ b s (n+1)).2=(cB b (nQ b s n).2 8).2:=by rw[KN]
def ab0 (b:bY)(s:XS)(n:Nat):(nQ b s n).2.v=s.v/\(nQ b s n).2.out=s.out/\(nQ b s n).2.most=s.most/\(nQ b s n).2.name=s.name:=by
 induction n with
 |zero=>exact⟨rfl,rfl,rfl,rfl⟩
 |succ n ih=>
  obtain⟨a,d,f,g⟩:=pW b (nQ b s n).2 8;rw[JH];exact⟨a.trans ih.1,d.trans ih.2.1,f.trans ih.2.2.1,g.trans ih.2.2.2⟩
def Qd (b:bY)(s:XS)(n:Nat):(nQ b s n).1<256^n:=by
 induction n with
 |zero=>exact Nat.one_pos
 |succ n ih=>
  have h:(cB b (nQ b s n).2 8).1<256:=jM b _ 8;rw[PI,gW];omega
def Yg (b:bY)(s:XS)(h:s.err≠0)(n:Nat):(nQ b s n).2=s:=by
 induction n with
 |zero=>rfl
 |succ n ih=>rw[JH,ih,oD b s h]
def Pw (b:bY)(s:XS)(h:s.err=0)(n:Nat)(hn:s.at_+8*n<=8*b.size):nQ b s n=(jB (bytesOf b) s.at_ n,{ s with at_:=s.at_+8*n }):=by
 induction n with
 |zero=>rfl
 |succ n ih=>
  have d:=jH b { s with at_:=s.at_+8*n } h 8 (by show s.at_+8*n+8<=_;omega);have a:jB (bytesOf b) s.at_ (n+1)=256*jB (bytesOf b) s.at_ n+aG (bytesOf b) (s.at_+8*n) 8:=by rw[jB]
  rw[KN,ih (by omega),d,a,nH 256,show s.at_+8*(n+1)=s.at_+8*n+8 by omega]
def Uk (b:bY)(s:XS)(h:s.err=0)(f:s.at_<=8*b.size)(n:Nat)(hn:8*b.size<s.at_+8*n):(nQ b s n).2={ s with at_:=8*b.size,err:=3 }:=by
 induction n with
 |zero=>omega
 |succ n ih=>
  rw[JH];by_cases d:s.at_+8*n<=8*b.size
  ·have a:=j3 b { s with at_:=s.at_+8*n } h d 8 (by show _<s.at_+8*n+8;omega);rw[Pw b s h n d,a]
  ·have a:=oD b { s with at_:=8*b.size,err:=3 } (by show(3:Nat)≠0;decide) 8;rw[ih (by omega),a]
def vI (b:bY)(s:XS):XS:=eO (!decide ((nQ b s 4).1=dZ 1 s.out)) 12 (nQ b s 4).2
def Xb (x base i:Nat)(b:bY)(s:XS)(w wr:aH)(o:j6 wr x base b (nQ b s i).2)(m:dH x w s.v wr s.v)(k:i<4):∃u c:Nat,u=(nQ b s i).1/\u*256+c<4294967296/\c<256/\Calls prog 140 #[E x,V 8] wr fun r w1=>r= .returned (V c)/\∃y:Nat,y=u*256+c/\y=(nQ b s (i+1)).1/\j6 w1 x base b (nQ b s (i+1)).2/\dH x w s.v w1 s.v:=by have l:=(ab0 b s i).1;have g:=gD x base 8 b (nQ b s i).2 wr o (by omega);rw[l]at g;have a:=Qd b s (i+1);have d:256^(i+1)<=256^4:=gL (by omega) (by omega);rw[PI]at a;refine⟨_,_,rfl,nM a d,jM b (nQ b s i).2 8,g.mono ?_⟩;rintro r w1 ⟨rfl,j,f⟩;exact⟨rfl,_,rfl,(PI b s i).symm,by rw[JH];exact j,m.trans f⟩
def ak8 (x base:Nat)(b:bY)(s:XS)(wr:aH)(f:j6 wr x base b (nQ b s 4).2):∃(c:Nat) (s1:XS),c=(nQ b s 4).1/\c<4294967296/\j6 wr x base b s1/\s1.v=s.v/\s1.out=s.out/\vI b s=eO (!decide (c=dZ 1 s.out)) 12 s1:=by obtain⟨a,d,_⟩:=ab0 b s 4;exact⟨_,_,rfl,Qd b s 4,f,a,d,by rw[vI]⟩
def V4 (x base:Nat)(b:bY)(s:XS)(w:aH)(h:j6 w x base b s)(hb:iR s.out)(hl:s.out.length<=1048576):Calls prog 113 #[E x] w fun r w'=>r= .returned (.tuple #[])/\j6 w' x base b (vI b s)/\dH x w s.v w' s.v:=by
 have HH:=hide h;clear h;go_enter func113,ntmps113;go_wp2_with fail;go_loopg [2,3] 4 (fun k u2 u3 wr=>∃i:Nat,u3=V i/\k+i=4/\u2= .int .u32 ((nQ b s i).1:Nat)/\j6 wr x base b (nQ b s i).2/\dH x w s.v wr s.v);case atStart=>exact⟨0,rfl,rfl,rfl,HH.o,dH.refl _ _ _⟩
 case round=>
  obtain⟨i,rfl,hi,rfl,J,H⟩:=hrel;by_cases Z:i<4
  ·obtain⟨u,c,hu,ad,P,hN⟩:=Xb x base i b s w wr J H Z;rw[<-hu];have HN:=hide hN;clear hN H J hu;go_wp2_with fail;apply HN.o.mono;rintro r w1 ⟨rfl,y,hy,L,h1,I⟩;have Q:=hide (aQ hy (aQ L (aQ h1 I)));clear h1 I HN hy L;go_wp2_with fail;go_roundg (gk-1);case measure=>omega
   case rel=>
    refine⟨i+1,by simp,by omega,?_,Q.o.2.2⟩;rw[<-Q.o.2.1,Q.o.1];simp
  ·obtain rfl:i=4:=by omega
   obtain⟨c,p,P,ac,d,t,m,B⟩:=ak8 x base b s wr J;rw[<-P];obtain⟨_,_,e1,e3,_⟩:=d.cell;have C:=hide (aQ d (aQ t (aQ m B)));have S:=hide H;by_cases N:p.err=0
   ·have Y:((p.err:Int)==0)=true:=dI.2 (by omega);have G:bytesOf (strOf s.out)=s.out:=xC _ hb;have g:=hide (fun W=>Yt (strOf s.out) W (by rw[qW];omega));rw[G]at g;obtain⟨va,vc,z⟩:=d.vQ;have q:∀W,O wr W->(convert 31 9 (.slice va p.out.length vc)).run prog W= .ok (.string (strOf s.out)) W:=fun W hW=>by
     rw[<-z,<-m];exact qO (d.step0 hW).own
    rw[z]at e3;have aa:=q wr (aU _ _);have ab:=q wr.drew ((aU _ _).drew);have T:=vB 1 (by decide) s.out;have H0:=hide N;generalize p.out.length=no at*;clear J H P d t m B G q z N;go_wp2_with fail;apply(g.o wr).mono;rintro r w2 ⟨rfl,rfl⟩;have HA:=hide (show∀a,a=dZ 1 s.out->vI b s=eO (!decide (c=a)) 12 p from fun a F=>by rw[F];exact C.o.2.2.2);obtain⟨a,F⟩:=aP (dZ 1 s.out);have j:=hide (HA.o a F);rw[<-F];clear HA F T g;by_cases l:c=a
    ·have X:((c:Int) !=(a:Int))=false:=(by rw[tY];omega);have f:=hide (show j6 w2 x base b (vI b s) by rw[j.o,eU l];show j6 w2 x base b (eO false 12 p);rw[mY];exact C.o.1);clear l j;go_wp2_with fail;go_end0;exact⟨rfl,f.o,S.o⟩
    ·have X:((c:Int) !=(a:Int))=true:=(by rw[jP];omega);have R:=hide (iK x base 12 b p w2 C.o.1);rw[aA H0.o]at R;have D:=hide (show vI b s={ p with err:=12 } by rw[j.o,fT l];exact jF H0.o);clear l j;go_wp2_with fail;apply R.o.mono;rintro r w3 ⟨rfl,h3,A⟩;rw[C.o.2.1]at A;have f:=hide (show j6 w3 x base b (vI b s)/\dH x w s.v w3 s.v from⟨by rw[D.o];exact h3,S.o.trans A⟩);clear h3 A R D;go_wp2_with fail;go_end0;exact⟨rfl,f.o⟩
   ·have Y:((p.err:Int)==0)=false:=aX.2 (by omega);have HE:=hide N;clear J H P d t m B N;go_wp2_with fail;go_end0;exact⟨rfl,by rw[C.o.2.2.2,iG HE.o];exact C.o.1,S.o⟩
open Go.Maps
def AP (l:aD):strOf l=eP l:=by unfold strOf eP strOfNums;rw[List.map_map];rfl
def Fh (l m:aD):strOf l++strOf m=strOf (l++m):=by rw[AP,AP,AP];apply IU;simp[eP]
def uT (b:bY)(s:XS)(ok:Bool)(q:Nat):XS:=if ok=true then{ s with at_:=q }else{ s with at_:=8*b.size,err:=3 }
def ad5 (x base p:Nat)(b:bY)(s:XS)(l:aD)(ok:Bool)(q:Nat)(w wr:aH)(h:j6 wr x base b { s with at_:=p })(A:dH x w s.v wr s.v)(j:s.err=0)(y:lI (bytesOf b) p l ok q):∃(c:Nat) (s':XS),c<256/\Calls prog 140 #[E x,V 8] wr (fun r w1=>r= .returned (V c)/\j6 w1 x base b s'/\dH x w s.v w1 s.v)/\((l=[]/\s'=uT b s ok q/\s'.err≠0)\/(l=[]/\s'=uT b s ok q/\s'.err=0/\c=0)\/(c≠0/\s'={ s with at_:=p+8 }/\s'.err=0/\∃g,l=c::g/\lI (bytesOf b) (p+8) g ok q)):=by
 have z:=gD x base 8 b { s with at_:=p } wr h (by omega);have o:(cB b { s with at_:=p } 8).1<256:=jM b _ 8;have u:p<=8*b.size:=h.there;have m:=bytesOf_length b;refine⟨(cB b { s with at_:=p } 8).1,(cB b { s with at_:=p } 8).2,o,z.mono (fun r w1 ⟨a,d,k⟩=>⟨a,d,A.trans k⟩),?_⟩;by_cases hp:p+8<=8*b.size
 ·have t:=jH b { s with at_:=p } j 8 hp;rw[t];rcases y with⟨_,a⟩|⟨_,a,d⟩|⟨_,g,_,_,a,d,k⟩
  ·rw[m]at a;omega
  ·exact .inr (.inl ⟨rfl,by unfold uT;rw[aA rfl],j,d⟩)
  ·exact .inr (.inr ⟨d,rfl,j,g,rfl,k⟩)
 ·have f:=j3 b { s with at_:=p } j u 8 (by show _<p+8;omega);rcases y with⟨_,a⟩|⟨_,a,d⟩|⟨_,g,_,_,a,d,k⟩
  ·refine .inl ⟨rfl,?_,by rw[f];simp⟩;rw[f];unfold uT;rw[aB (by simp)]
  ·rw[m]at a;omega
  ·rw[m]at a;omega
def Yc (c:Nat)(W:aH):(convert 31 9 (.slice (some (U W.heap.size 0)) 1 1)).run prog (W.alloc (.cells #[.int .u8 (c:Nat)] 5))= .ok (.string (strOf [c])) (W.alloc (.cells #[.int .u8 (c:Nat)] 5)):=
 P6 (W.alloc (.cells #[.int .u8 (c:Nat)] 5)) 31 5 underlying31 underlying5 W.heap.size 0 1 1 [(c:Int)] (by simp) (fun j a=>by
  obtain rfl:j=0:=by omega
  exact jO (aR _ _)) 9 underlying9
def Ta (x base:Nat)(b:bY)(s:XS)(l:aD)(ok:Bool)(q:Nat)(w:aH)(h:j6 w x base b s)(L:s.err=0)(R:lI (bytesOf b) s.at_ l ok q):Calls prog 148 #[E x] w fun r w'=>r= .returned (.string (strOf l))/\j6 w' x base b (uT b s ok q)/\dH x w s.v w' s.v:=by
 have I:=hide h;have J:=hide R;have H:=hide L;clear h R L;go_enter func148,ntmps148;go_wp2_with fail;go_loopg [3] (b.size+1) (fun k u3 wr=>∃(l1 l2:aD) (p:Nat),l=l1++l2/\u3= .string (strOf l1)/\lI (bytesOf b) p l2 ok q/\j6 wr x base b { s with at_:=p }/\dH x w s.v wr s.v/\8*b.size+8<=p+8*k);case atStart=>exact⟨[],l,s.at_,rfl,rfl,J.o,I.o,dH.refl _ _ _,by omega⟩
 case round=>
  obtain⟨l1,l2,p,Q,rfl,C,G,S,hk⟩:=hrel;have ac:p<=8*b.size:=G.there;obtain⟨c,s',hc,P,j⟩:=ad5 x base p b s l2 ok q w wr G S H.o C;obtain⟨_,_,T,_⟩:=G.cell;rw[show(XS.err { s with at_:=p })=0 from H.o]at T;have D:=hide P;have m:=hide Q;clear G S C P Q;go_wp2_with fail;apply D.o.mono;rintro r w1 ⟨rfl,g,f⟩;obtain⟨_,_,W,_⟩:=g.cell;rcases j with⟨rfl,d,y⟩|⟨rfl,d,y,u⟩|⟨u,d,y,l3,A,B⟩
  ·have z:((s'.err:Int) !=0)=true:=jP.2 (by omega);have a:=hide (show j6 w1 x base b (uT b s ok q)/\dH x w s.v w1 s.v/\l=l1 from⟨by rw[<-d];exact g,f,by rw[m.o,bG]⟩);clear g f d y D m;go_wp2_with fail;go_ret;exact⟨by rw[a.o.2.2];rfl,a.o.1,a.o.2.1⟩
  ·have z:((s'.err:Int) !=0)=false:=(by rw[tY];omega);have a:=hide (show j6 w1 x base b (uT b s ok q)/\dH x w s.v w1 s.v/\l=l1 from⟨by rw[<-d];exact g,f,by rw[m.o,bG]⟩);clear g f d y D m;subst u;go_wp2_with fail;go_ret;exact⟨by rw[a.o.2.2];rfl,a.o.1,a.o.2.1⟩
  ·have z:((s'.err:Int) !=0)=false:=(by rw[tY];omega);have Z:((c:Int)==0)=false:=aX.2 (by omega);have aa:=Yc c w1;have ab:¬9223372036854775807<(strOf l1).size+(strOf [c]).size:=by
    rw[qW,qW];have F:=J.o.len;have h8:=I.o.much;have h7:=bytesOf_length b;have N:l.length=l1.length+l2.length:=(by rw[m.o,aN]);rcases F with F|F
    ·simp;omega
    ·rw[F]at N;simp at N;simp;omega
   have a:=hide (aQ g (aQ f (aQ d (aQ A B))));clear g f d y D A B;go_wp2_with fail;go_roundg (gk-1);case measure=>omega
   case rel=>
    obtain⟨f1,f2,X,f4,Y⟩:=a.o;have t:=(aU (fun _=>False) w1).alloc (.cells #[.int .u8 (c:Nat)] 5);refine⟨l1++[c],l3,p+8,by rw[m.o,f4,dB];rfl,by rw[<-Fh],Y,?_,f2.step0 t,by omega⟩;rw[<-X];exact f1.step0 t
def Ki (l:aD)(c:Nat):gY (l++[c])=gY l++uG c:=by simp[gY]
def Rv (l:aD):(gY l).length<=2*l.length:=by
 induction l with
 |nil=>simp[gY]
 |cons c l ih=>
  have d:(uG c).length<=2:=by unfold uG;split<;>simp
  have a:gY (c::l)=uG c++gY l:=by simp[gY]
  rw[a,aN,iN];omega
def an7 (b:bY)(i:Nat)(h:i<b.size):b.extract i (i+1)=strOf [b[i].toNat]:=by
 rw[AP];apply IU;have f:i<b.data.size:=h;simp only[ByteArray.data_extract,eP,uI,List.map_nil,UInt8.ofNat_toNat];apply Array.ext
 ·simp;omega
 ·intro j g a;have d:j=0:=by simp at a;exact a
  subst d;simp;rfl
def Zv (c d:Nat)(W:aH):(convert 31 9 (.slice (some (U W.heap.size 0)) 2 2)).run prog (W.alloc (.cells #[.int .u8 (c:Nat), .int .u8 (d:Nat)] 5))= .ok (.string (strOf [c,d])) (W.alloc (.cells #[.int .u8 (c:Nat), .int .u8 (d:Nat)] 5)):=
 P6 (W.alloc (.cells #[.int .u8 (c:Nat), .int .u8 (d:Nat)] 5)) 31 5 underlying31 underlying5 W.heap.size 0 2 2 [(c:Int),(d:Int)] (by simp) (fun j f=>by
  have a:=aR W (.cells #[.int .u8 (c:Nat), .int .u8 (d:Nat)] 5)
  match j,f with
  |0,_=>exact aC a 0 _ rfl
  |1,_=>exact aC a 1 _ rfl) 9 underlying9
def Lu (b:bY)(w:aH)(G:b.size<=140737488351232):Calls prog 149 #[.string b] w fun r w'=>r= .returned (.string (strOf (gY (bytesOf b))))/\O w w':=by
 go_enter func149,ntmps149;go_wp2_with fail;go_loopg [3,4] b.size (fun k u3 u4 wr=>∃(i:Nat) (y:bY),u4=V i/\k+i=b.size/\y=strOf (gY ((bytesOf b).take i))/\u3= .string y/\O w wr);case atStart=>exact⟨0,_,rfl,by omega,rfl,rfl,aU _ _⟩
 case round=>
  obtain⟨i,y,rfl,hk,l,rfl,A⟩:=hrel;have F:=hide l;have t:=hide A;by_cases m:i=b.size
  ·have v:¬((i:Int)<(b.size:Int)):=(by omega);have C:=hide (show strOf (gY (bytesOf b))=y from by rw[l,kW (by rw[bytesOf_length];omega)]);clear m l A;go_wp2_with fail;go_ret;exact⟨by rw[C.o];rfl,t.o⟩
  ·have v:(i:Int)<(b.size:Int):=(by omega);have D:(0:Int)<=(i:Int):=(by omega);have p:i<b.size:=(by omega);have H:b[i].toNat<256:=b[i].toNat_lt;have B:y.size<=2*i:=by
    rw[l,qW];refine bB (Rv _) ?_;rw[dF];omega
   have q:=hide (show strOf (gY ((bytesOf b).take (i+1)))=y++strOf (uG b[i].toNat) from by rw[bytesOf_take b i p,Ki,<-Fh,l]);have a:=an7 b i p;clear l A;by_cases f:b[i].toNat<128
   ·have g:((b[i].toNat:Nat):Int)<128:=(by omega);have d:uG b[i].toNat=[b[i].toNat]:=(by unfold uG;rw[aA f]);rw[d,<-a]at q;have j:(b.extract i (i+1)).size=1:=(by rw[a,qW];rfl);have z:¬9223372036854775807<y.size+(b.extract i (i+1)).size:=(by omega);clear d a j;go_wp2_with fail;go_roundg (gk-1);case measure=>omega
    case rel=>exact⟨i+1,_,by simp,by omega,q.o.symm,rfl,t.o⟩
   ·have g:¬((b[i].toNat:Nat):Int)<128:=(by omega);have d:uG b[i].toNat=[192+b[i].toNat/64,128+b[i].toNat%64]:=(by unfold uG;rw[aB f]);rw[d]at q;have u:=Zv (192+b[i].toNat/64) (128+b[i].toNat%64) wr;rw[show((192+b[i].toNat/64:Nat):Int)=192+(b[i].toNat:Int)/64 by omega,show((128+b[i].toNat%64:Nat):Int)=128+(b[i].toNat:Int)%64 by omega]at u;have j:(strOf [192+b[i].toNat/64,128+b[i].toNat%64]).size=2:=(by rw[qW];rfl);have z:¬9223372036854775807<y.size+(strOf [192+b[i].toNat/64,128+b[i].toNat%64]).size:=(by omega);clear d a j;go_wp2_with fail;go_roundg (gk-1);case measure=>omega
    case rel=>exact⟨i+1,_,by simp,by omega,q.o.symm,rfl,t.o.alloc _⟩
structure GA (b:bY)(x base M:Nat)(wA w:aH)(K:Nat->aD->Prop)(e:Nat)(out:aD)(used:Nat)(name:aD)(s:XS):Prop where
 H9:j6 w x base b s
 vv:s.v= .slice none 0 0
 oo:s.out=[]
 mm:s.most=M
 step:Step (·=x) wA w
 st:(s.err=0/\∃nm,s.name=eP nm/\K s.at_ nm)\/(s.err≠0/\∃nm,s.name=eP nm/\qI s.err nm e out used name)
variable {b:bY} {x base M:Nat} {wA w:aH} {K K':Nat->aD->Prop} {e:Nat} {out:aD} {used:Nat} {name:aD} {s:XS}
def GA.weaken (h:GA b x base M wA w K e out used name s)(g:s.err=0->∀p nm,p<=8*b.size->K p nm->K' p nm):GA b x base M wA w K' e out used name s:=⟨h.H9,h.vv,h.oo,h.mm,h.step,h.st.imp (fun⟨a,nm,d,f⟩=>⟨a,nm,d,g a _ _ h.H9.there f⟩) id⟩
def GA.dead (h:GA b x base M wA w K e out used name s)(hs:s.err≠0):GA b x base M wA w K' e out used name s:=h.weaken (fun y=>absurd y hs)
def GA.live (h:GA b x base M wA w K e out used name s)(hs:s.err=0):∃nm,s.name=eP nm/\K s.at_ nm:=by
 rcases h.st with⟨_,y⟩|⟨y,_⟩
 ·exact y
 ·exact absurd hs y
def GA.step0 {w':aH}(h:GA b x base M wA w K e out used name s)(hs:O w w'):GA b x base M wA w' K e out used name s:=⟨h.H9.step0 hs,h.vv,h.oo,h.mm,h.step.trans (hs.mono (fun _ y=>y.elim)),h.st⟩
def JJ {x:Nat}{w w':aH}{v:aK}(h:dH x w v w' v)(a:v= .slice none 0 0):Step (·=x) w w':=h.step.mono (fun k y=>by
 rcases y with y|y
 ·exact y
 ·rw[a]at y;cases y)
def GA.num (h:GA b x base M wA w K e out used name s)(a:Nat)(hn:a<=60)(l:∀p nm,K p nm->p<=8*b.size->8*b.size<p+a->qI 3 nm e out used name):∃c:Nat,c<2^a/\Calls prog 140 #[E x,V a] w (fun r w1=>r= .returned (V c)/\∃o,GA b x base M wA w1 (fun p nm=>a<=p/\c=aG (bytesOf b) (p-a) a/\K (p-a) nm) e out used name o):=by
 obtain⟨v1,q,t,u⟩:=pW b s a;have m:=gD x base a b s w h.H9 hn;refine⟨(cB b s a).1,jM b s a,m.mono ?_⟩;rintro r w1 ⟨rfl,j,k⟩;refine⟨rfl,(cB b s a).2,j,v1.trans h.vv,q.trans h.oo,t.trans h.mm,h.step.trans (JJ k h.vv),?_⟩;rw[u];rcases h.st with⟨k1,nm,k2,d⟩|⟨k1,nm,k2,d⟩
 ·by_cases hp:s.at_+a<=8*b.size
  ·have g:=jH b s k1 a hp;rw[g];refine .inl ⟨k1,nm,k2,?_,?_,?_⟩
   ·show a<=s.at_+a;omega
   ·show aG (bytesOf b) s.at_ a=aG (bytesOf b) (s.at_+a-a) a;rw[sV]
   ·show K (s.at_+a-a) nm;rw[sV];exact d
  ·have f:=j3 b s k1 h.H9.there a (by omega);rw[f];exact .inr ⟨by show(3:Nat)≠0;decide,nm,k2,l _ nm d h.H9.there (by omega)⟩
 ·rw[oD b s k1 a];exact .inr ⟨k1,nm,k2,d⟩
def GA.fail (h:GA b x base M wA w K e out used name s)(f:s.err=0)(d:Nat)(k:d≠0)(a:∀p nm,p<=8*b.size->K p nm->qI d nm e out used name):Calls prog 145 #[E x,V d] w fun r w1=>r= .returned (.tuple #[])/\∃m,GA b x base M wA w1 K' e out used name m:=by obtain⟨nm,k2,l⟩:=h.live f;apply(iK x base d b s w h.H9).mono;rintro r w1 ⟨rfl,g,j⟩;rw[aA f]at g;exact⟨rfl,_,g,h.vv,h.oo,h.mm,h.step.trans (JJ j h.vv), .inr ⟨k,nm,k2,a _ _ h.H9.there l⟩⟩
def GA.pin (h:GA b x base M wA w K e out used name s):GA b x base M wA w (fun p nm=>p=s.at_/\K p nm) e out used name s:=⟨h.H9,h.vv,h.oo,h.mm,h.step,h.st.imp (fun⟨a,nm,d,f⟩=>⟨a,nm,d,rfl,f⟩) id⟩
def VF (b:bY)(k:Nat):bytesOf (b.extract 0 k)=(bytesOf b).take k:=by unfold bytesOf;simp
def Cn (b:bY)(k:Nat)(h:k<=b.size)(W:aH):(Instr.slice 9 (.string b) none (some (V (k:Int))) none).run prog W= .ok (.string (b.extract 0 k)) W:=by
 have a:=underlying9;have d:(0:Int)<=(k:Int):=by omega
 have f:(k:Int)<=(b.size:Int):=by omega
 simp[Instr.slice,Instr.sliceBounds,Instr.sliceBound,asIntOf,x9 a,h]
def Sw (x base:Nat)(b:bY)(s:XS)(w:aH)(h:j6 w x base b s)(a:s.err≠0):Calls prog 148 #[E x] w fun r w'=>r= .returned (.string (strOf []))/\w'=w:=by
 obtain⟨_,_,f,_⟩:=h.cell;have d:((s.err:Int)==0)=false:=aX.2 (by omega);clear h a;go_enter func148,ntmps148;go_wp2_with fail;go_loopg [3] 1 (fun _ u3 wr=>u3= .string (strOf [])/\wr=w);case atStart=>exact⟨rfl,rfl⟩
 case round=>
  obtain⟨rfl,rfl⟩:=hrel;go_wp2_with fail;go_ret;exact⟨rfl,rfl⟩
def GA.text (h:GA b x base M wA w K e out used name s)(m:∀p nm l q,K p nm->lI (bytesOf b) p l false q->qI 3 nm e out used name):∃l:aD,l.length<=b.size/\Calls prog 148 #[E x] w (fun r w1=>r= .returned (.string (strOf l))/\∃o,GA b x base M wA w1 (fun p nm=>∃p0,K p0 nm/\lI (bytesOf b) p0 l true p) e out used name o):=by
 by_cases a:s.err=0
 ·obtain⟨nm,k2,k⟩:=h.live a;obtain⟨l,ok,q,g⟩:=TS (bytesOf b) (8*b.size) s.at_ (by rw[bytesOf_length];omega);have f:l.length<=b.size:=by
   rcases g.len with y|y
   ·rw[bytesOf_length]at y;omega
   ·rw[y];simp
  refine⟨l,f,(Ta x base b s l ok q w h.H9 a g).mono ?_⟩;rintro r w1 ⟨rfl,d,j⟩;refine⟨rfl,uT b s ok q,?_⟩;unfold uT at d|-
  cases ok with
  |true=>
   rw[aA rfl]at d|-
   exact⟨d,h.vv,h.oo,h.mm,h.step.trans (JJ j h.vv), .inl ⟨a,nm,k2,s.at_,k,g⟩⟩
  |false=>
   rw[aB (by simp)]at d|-
   exact⟨d,h.vv,h.oo,h.mm,h.step.trans (JJ j h.vv), .inr ⟨by show(3:Nat)≠0;decide,nm,k2,m _ nm l q k g⟩⟩
 ·refine⟨[],iZ _,(Sw x base b s w h.H9 a).mono ?_⟩;rintro r w1 ⟨rfl,rfl⟩;exact⟨rfl,s,h.dead a⟩
def GA.named (h:GA b x base M wA w K e out used name s)(a:s.err=0)(l:aD)(d:∀p nm,K p nm->K' p l):GA b x base M wA (w.setCell (U x 5) (.string (strOf l))) K' e out used name { s with name:=strOf l }:=by obtain⟨nm,k2,f⟩:=h.live a;refine⟨h.H9.set (s':={ s with name:=strOf l }) 5 (.string (strOf l)) (by simp[XS.cells]) rfl rfl h.H9.there,h.vv,h.oo,h.mm,h.step.setCell (p:=(U x 5)) rfl _, .inl ⟨a,l,AP l,d _ _ f⟩⟩
def nJ (b:bY)(s:XS):XS:=eO (!decide ((cB b s 32).1=aL 0 s.out)) 12 (cB b s 32).2
def uE (b:bY)(s:XS):XS:=eO (!decide ((cB b (nJ b s) 32).1=s.out.length)) 12 (cB b (nJ b s) 32).2
def Gt (x base n:Nat)(b:bY)(s a:XS)(w wr:aH)(h:j6 wr x base b s)(hn:n<=60)(f:s.v=a.v)(l:s.out=a.out)(m:dH x w a.v wr a.v):∃(c:Nat) (s1:XS),c=(cB b s n).1/\s1=(cB b s n).2/\c<2^n/\s1.v=a.v/\s1.out=a.out/\Calls prog 140 #[E x,V n] wr fun r w1=>r= .returned (V c)/\j6 w1 x base b s1/\dH x w a.v w1 a.v:=by obtain⟨v1,o,_,_⟩:=pW b s n;have d:=gD x base n b s wr h hn;rw[f]at d;exact⟨_,_,rfl,rfl,jM b s n,v1.trans f,o.trans l,d.mono (fun r w1 ⟨g,j,k⟩=>⟨g,j,m.trans k⟩)⟩
def VJ (x base:Nat)(b:bY)(s:XS)(w:aH)(h:j6 w x base b s)(hb:iR s.out)(hl:s.out.length<=1048576):Calls prog 115 #[E x] w fun r w'=>r= .returned (.tuple #[])/\j6 w' x base b (uE b s)/\dH x w s.v w' s.v:=by
 obtain⟨a,m,ha,ai,ad,aj,R,hN⟩:=Gt x base 32 b s s w w h (by omega) rfl rfl (dH.refl _ _ _);have ad:a<4294967296:=ad;have z:=hide (show nJ b s=eO (!decide (a=aL 0 s.out)) 12 m by rw[nJ,ha,ai]);have ab:=hide (show uE b s=eO (!decide ((cB b (nJ b s) 32).1=s.out.length)) 12 (cB b (nJ b s) 32).2 by rw[uE]);have HN:=hide hN;clear hN ha ai h;have j:=hide (show∀(s2:XS) (w2:aH),j6 w2 x base b s2->s2.v=s.v->s2.out=s.out->s2=nJ b s->dH x w s.v w2 s.v->∃(y:Nat) (p:XS),y<4294967296/\uE b s=eO (!decide (y=s.out.length)) 12 p/\p.v=s.v/\p.out=s.out/\Calls prog 140 #[E x,V 32] w2 fun r w1=>r= .returned (V y)/\j6 w1 x base b p/\dH x w s.v w1 s.v from fun s2 w2 h2 hv ho he hw=>by
  obtain⟨y,p,hy,ar,G,g,f,d⟩:=Gt x base 32 b s2 s w w2 h2 (by omega) hv ho hw;exact⟨y,p,G,by rw[ab.o,hy,ar,he],g,f,d⟩)
 clear ab;go_enter func115,ntmps115;go_wp2_with fail;apply HN.o.mono;rintro r w1 ⟨rfl,h1,ak⟩;obtain⟨_,_,e2,e3,_⟩:=h1.cell;have Z:=hide (aQ h1 ak);have ah:bytesOf (strOf s.out)=s.out:=xC _ hb;have B:=hide (fun W=>TU (strOf s.out) W (by rw[qW];omega));rw[ah]at B;obtain⟨va,vc,F⟩:=h1.vQ;have ap:(convert 31 9 (.slice va m.out.length vc)).run prog w1= .ok (.string (strOf s.out)) w1:=by
  rw[<-F,<-R];exact qO h1.own
 rw[F]at e3;have q:=hide (aQ aj (aQ R F));obtain⟨no,ag⟩:=aP m.out.length;rw[<-ag]at e3 ap;obtain⟨u,hu⟩:=aP (aL 0 s.out);have av:u<4294967296:=by rw[hu];exact iW _ _
 rw[<-hu]at B z;clear h1 ak ah aj R F HN ag hu;have Q:(¬m.err=0/\nJ b s=m)\/(m.err=0/\a=u/\nJ b s=m)\/(m.err=0/\¬a=u/\nJ b s={ m with err:=12 }):=by
  by_cases k:m.err=0
  ·by_cases h2:a=u
   ·exact .inr (.inl ⟨k,h2,by rw[z.o,eU h2];exact mY⟩)
   ·exact .inr (.inr ⟨k,h2,by rw[z.o,fT h2];exact jF k⟩)
  ·exact .inl ⟨k,by rw[z.o];exact iG k⟩
 clear z;rcases Q with⟨k,H⟩|⟨k,P,H⟩|⟨k,P,H⟩
 focus
  have ae:((m.err:Int)==0)=false:=aX.2 (by omega);obtain⟨y,p,G,J,g,f,d⟩:=j.o m w1 Z.o.1 q.o.1 q.o.2.1 H.symm Z.o.2;have C:=hide d;have N:=hide (aQ J (aQ g f));clear d J g f k H j
 rotate_left;focus
  have ae:((m.err:Int)==0)=true:=dI.2 (by omega);have aq:((a:Int) !=(u:Int))=false:=by rw[tY];omega
  obtain⟨y,p,G,J,g,f,d⟩:=j.o m w1 Z.o.1 q.o.1 q.o.2.1 H.symm Z.o.2;have C:=hide d;have N:=hide (aQ J (aQ g f));clear d J g f k H j P;go_wp2_with fail;apply(B.o _).mono;rintro r w2 ⟨rfl,rfl⟩
 rotate_left;focus
  have ae:((m.err:Int)==0)=true:=dI.2 (by omega);have aq:((a:Int) !=(u:Int))=true:=by rw[jP];omega
  have HF:=hide (iK x base 12 b m w1 Z.o.1);rw[aA k]at HF;have am:=hide H;clear k H P;go_wp2_with fail;apply(B.o _).mono;rintro r w2 ⟨rfl,rfl⟩;go_wp2_with fail;apply HF.o.mono;rintro r w4 ⟨rfl,h4,S⟩;rw[q.o.1]at S;obtain⟨y,p,G,J,g,f,d⟩:=j.o _ w4 h4 q.o.1 q.o.2.1 am.o.symm (Z.o.2.trans S);have C:=hide d;have N:=hide (aQ J (aQ g f));clear d J g f j h4 S HF
 all_goals
  go_wp2_with fail;apply C.o.mono;rintro r w5 ⟨rfl,h5,al⟩;obtain⟨_,_,e5,ac,_⟩:=h5.cell;obtain⟨aw,ax,I⟩:=h5.vQ;rw[I]at ac;obtain⟨nn,D⟩:=aP p.out.length;rw[<-D]at ac;have au:nn<=1048576:=by rw[D,N.o.2.2];exact hl
  have t:=hide (aQ h5 al);have Y:=N.o.1;rw[<-N.o.2.2,<-D]at Y;have A:=hide Y;have an:=hide N.o.2.1;clear h5 al C N Y D I;by_cases k:p.err=0
  ·have af:((p.err:Int)==0)=true:=dI.2 (by omega);by_cases X:y=nn
   ·have ao:((y:Int) !=(nn:Int))=false:=(by rw[tY];omega);have l:=hide (show j6 w5 x base b (uE b s) by rw[A.o,eU X];show j6 w5 x base b (eO false 12 p);rw[mY];exact t.o.1);go_wp2_with fail;go_end0;exact⟨rfl,l.o,t.o.2⟩
   ·have ao:((y:Int) !=(nn:Int))=true:=(by rw[jP];omega);have L:=hide (iK x base 12 b p w5 t.o.1);rw[aA k]at L;have aa:=hide (show uE b s={ p with err:=12 } by rw[A.o,fT X];exact jF k);clear X k A;go_wp2_with fail;apply L.o.mono;rintro r w6 ⟨rfl,h6,T⟩;rw[an.o]at T;have l:=hide (show j6 w6 x base b (uE b s)/\dH x w s.v w6 s.v from⟨by rw[aa.o];exact h6,t.o.2.trans T⟩);clear h6 T L aa;go_wp2_with fail;go_end0;exact⟨rfl,l.o⟩
  ·have af:((p.err:Int)==0)=false:=aX.2 (by omega);have l:=hide (show j6 w5 x base b (uE b s) by rw[A.o,iG k];exact t.o.1);clear k A;go_wp2_with fail;go_end0;exact⟨rfl,l.o,t.o.2⟩
def Ls:Nat->Nat
 |0=>31
 |1=>139
 |_=>8
def gzM (B:aD)(most:Nat):Nat->Nat->aD->Nat->aD->Prop
 |0=>xA B most
 |1=>gz1 B most
 |2=>gz2 B most
 |_=>jU B most 24
def SF (B:aD)(most i:Nat)(h:i<3):gzM B most i=mO B (Ls i) (8*i) (gzM B most (i+1)):=by
 match i,h with
 |0,_=>rfl
 |1,_=>rfl
 |2,_=>rfl
variable {b:bY} {x base M:Nat} {wA w:aH} {K K':Nat->aD->Prop} {e:Nat} {out:aD} {used:Nat} {name:aD} {s:XS}
def KA (b:bY)(most i:Nat)(e:Nat)(out:aD)(used:Nat)(name:aD)(p:Nat)(nm:aD):Prop:=p=8*i/\nm=[]/\gzM (bytesOf b) most i e out used name
def ak6 (hi:i<3)(p:Nat)(nm:aD)(h:KA b M i e out used name p nm)(a:8*b.size<p+8):qI 3 nm e out used name:=by obtain⟨rfl,rfl,h⟩:=h;rw[SF _ _ _ hi]at h;unfold mO at h;rw[bytesOf_length,aB (by omega)]at h;exact h
def av4 (hi:i<3)(f:c≠Ls i)(p:Nat)(nm:aD)(hp:p<=8*b.size)(h:8<=p/\c=aG (bytesOf b) (p-8) 8/\KA b M i e out used name (p-8) nm):qI 4 nm e out used name:=by obtain⟨g,a,d,rfl,h⟩:=h;rw[SF _ _ _ hi]at h;unfold mO at h;rw[bytesOf_length,aA (by omega),<-d,<-a,aB f]at h;exact h
def aj9 (hi:i<3)(f:c=Ls i)(p:Nat)(nm:aD)(hp:p<=8*b.size)(h:8<=p/\c=aG (bytesOf b) (p-8) 8/\KA b M i e out used name (p-8) nm):KA b M (i+1) e out used name p nm:=by obtain⟨g,a,d,rfl,h⟩:=h;rw[SF _ _ _ hi]at h;unfold mO at h;rw[bytesOf_length,aA (by omega),<-d,<-a,aA f]at h;exact⟨by omega,rfl,h⟩
def Sm (b:bY)(most c:Nat)(e:Nat)(out:aD)(used:Nat)(name:aD)(p:Nat)(nm:aD):Prop:=nm=[]/\qA (bytesOf b) most c p 6 e out used name
def aq3 (p:Nat)(nm:aD)(h:KA b M 3 e out used name p nm)(a:8*b.size<p+8):qI 3 nm e out used name:=by obtain⟨rfl,rfl,h⟩:=h;have h:jU (bytesOf b) M 24 e out used name:=h;unfold jU at h;rw[bytesOf_length,aB (by omega)]at h;exact h
def ax5 (f:¬c<32)(p:Nat)(nm:aD)(hp:p<=8*b.size)(h:8<=p/\c=aG (bytesOf b) (p-8) 8/\KA b M 3 e out used name (p-8) nm):qI 4 nm e out used name:=by obtain⟨g,a,d,rfl,h⟩:=h;have h:jU (bytesOf b) M 24 e out used name:=h;rw[d]at a;unfold jU at h;rw[bytesOf_length,aA (by omega),<-a,aB f]at h;exact h
def ai3 (g:c<32)(p:Nat)(nm:aD)(hp:p<=8*b.size)(h:8<=p/\c=aG (bytesOf b) (p-8) 8/\KA b M 3 e out used name (p-8) nm):Sm b M c e out used name p nm:=by
 obtain⟨j,d,f,rfl,h⟩:=h;have h:jU (bytesOf b) M 24 e out used name:=h;rw[f]at d;unfold jU at h;rw[bytesOf_length,aA (by omega),<-d,aA g]at h;have a:p=24+8:=by omega
 exact⟨rfl,by rw[a];exact h⟩
def ao1 (b:bY)(most c:Nat)(e:Nat)(out:aD)(used:Nat)(name:aD)(p:Nat)(nm:aD):Prop:=nm=[]/\kT (bytesOf b) most c p e out used name
def ap0 (p:Nat)(nm:aD)(h:Sm b M c e out used name p nm)(a:8*b.size<p+48):qI 3 nm e out used name:=by obtain⟨rfl,h⟩:=h;unfold qA at h;rw[bytesOf_length,aB (by omega)]at h;exact h
def ag8 {c2:Nat}(p:Nat)(nm:aD)(hp:p<=8*b.size)(h:48<=p/\c2=aG (bytesOf b) (p-48) 48/\Sm b M c e out used name (p-48) nm):ao1 b M c e out used name p nm:=by obtain⟨a,d,rfl,h⟩:=h;unfold qA at h;rw[bytesOf_length,aA (by omega),show p-48+8*6=p by omega]at h;exact⟨rfl,h⟩
def Nv (b:bY)(most c m:Nat)(e:Nat)(out:aD)(used:Nat)(name:aD)(p:Nat)(nm:aD):Prop:=nm=[]/\if p+8*m<=8*b.size then jW (bytesOf b) most c (p+8*m) [] e out used name else qI 3 [] e out used name
def Ny (b:bY)(most c:Nat)(e:Nat)(out:aD)(used:Nat)(name:aD)(p:Nat)(nm:aD):Prop:=nm=[]/\jW (bytesOf b) most c p [] e out used name
def Wl (a:c/4%2=1)(p:Nat)(nm:aD)(h:ao1 b M c e out used name p nm)(d:8*b.size<p+16):qI 3 nm e out used name:=by obtain⟨rfl,h⟩:=h;unfold kT at h;rw[bytesOf_length,aA a,aB (by omega)]at h;exact h
def Tz (a:c/4%2=1)(p:Nat)(nm:aD)(hp:p<=8*b.size)(h:16<=p/\n=aG (bytesOf b) (p-16) 16/\ao1 b M c e out used name (p-16) nm):Nv b M c n e out used name p nm:=by obtain⟨f,d,rfl,h⟩:=h;unfold kT at h;rw[bytesOf_length,aA a,aA (by omega),<-d,show p-16+16=p by omega]at h;unfold nV at h;rw[bytesOf_length,aA a]at h;exact⟨rfl,h⟩
def am3 {m:Nat}(d:0<m)(p:Nat)(nm:aD)(h:Nv b M c m e out used name p nm)(a:8*b.size<p+8):qI 3 nm e out used name:=by obtain⟨rfl,h⟩:=h;rw[aB (by omega)]at h;exact h
def ai0 {m c2:Nat}(f:0<m)(p:Nat)(nm:aD)(h:8<=p/\c2=aG (bytesOf b) (p-8) 8/\Nv b M c m e out used name (p-8) nm):Nv b M c (m-1) e out used name p nm:=by obtain⟨a,d,rfl,h⟩:=h;rw[show p-8+8*m=p+8*(m-1) by omega]at h;exact⟨rfl,h⟩
def ay4 (p:Nat)(nm:aD)(hp:p<=8*b.size)(h:Nv b M c 0 e out used name p nm):Ny b M c e out used name p nm:=by obtain⟨rfl,h⟩:=h;rw[aA (by omega)]at h;exact⟨rfl,h⟩
def aB1 (a:¬c/4%2=1)(p:Nat)(nm:aD)(h:ao1 b M c e out used name p nm):Ny b M c e out used name p nm:=by obtain⟨rfl,h⟩:=h;unfold kT at h;rw[aB a]at h;exact⟨rfl,h⟩
def D8 {B:aD}{p:Nat}{l m:aD}{ok d:Bool}{q q':Nat}(h:lI B p l ok q)(f:lI B p m d q'):l=m/\ok=d/\q=q':=by
 induction h generalizing m d q' with
 |miss p h=>
  rcases f with⟨_,k⟩|⟨_,k,a⟩|⟨_,o,_,_,k,a,j⟩
  ·exact⟨rfl,rfl,rfl⟩
  ·omega
  ·omega
 |zero p h g=>
  rcases f with⟨_,k⟩|⟨_,k,a⟩|⟨_,o,_,_,k,a,j⟩
  ·omega
  ·exact⟨rfl,rfl,rfl⟩
  ·exact absurd g a
 |more p l ok q h g r ih=>
  rcases f with⟨_,k⟩|⟨_,k,a⟩|⟨_,o,_,_,k,a,j⟩
  ·omega
  ·exact absurd a g
  ·obtain⟨rfl,rfl,rfl⟩:=ih j;exact⟨rfl,rfl,rfl⟩
def RI (b:bY)(most c:Nat)(e:Nat)(out:aD)(used:Nat)(name:aD)(p:Nat)(nm:aD):Prop:=gX (bytesOf b) most c p nm e out used name
def aq7 (d:c/8%2=1)(p:Nat)(nm l:aD)(q:Nat)(h:Ny b M c e out used name p nm)(f:lI (bytesOf b) p l false q):qI 3 nm e out used name:=by obtain⟨rfl,h⟩:=h;unfold jW at h;rw[aA d]at h;obtain⟨j,g,q',a,h⟩:=h;obtain⟨rfl,rfl,rfl⟩:=D8 f a;rw[aB (by simp)]at h;exact h
def an4 (d:c/8%2=1)(l:aD)(p:Nat)(nm:aD)(h:∃p0,Ny b M c e out used name p0 nm/\lI (bytesOf b) p0 l true p):RI b M c e out used name p (gY l):=by obtain⟨p0,⟨rfl,h⟩,f⟩:=h;unfold jW at h;rw[aA d]at h;obtain⟨j,g,q',a,h⟩:=h;obtain⟨rfl,rfl,rfl⟩:=D8 f a;rw[aA rfl,iO]at h;exact h
def aB6 (a:¬c/8%2=1)(p:Nat)(nm:aD)(h:Ny b M c e out used name p nm):RI b M c e out used name p nm:=by obtain⟨rfl,h⟩:=h;unfold jW at h;rw[aB a]at h;exact h
def O1 (b:bY)(most c:Nat)(e:Nat)(out:aD)(used:Nat)(name:aD)(p:Nat)(nm:aD):Prop:=jG (bytesOf b) most c p nm e out used name
def aj4 (d:c/16%2=1)(p:Nat)(nm l:aD)(q:Nat)(h:RI b M c e out used name p nm)(f:lI (bytesOf b) p l false q):qI 3 nm e out used name:=by unfold RI gX at h;rw[aA d]at h;obtain⟨j,g,q',a,h⟩:=h;obtain⟨rfl,rfl,rfl⟩:=D8 f a;rw[aB (by simp)]at h;exact h
def ao9 (d:c/16%2=1)(l:aD)(p:Nat)(nm:aD)(h:∃p0,RI b M c e out used name p0 nm/\lI (bytesOf b) p0 l true p):O1 b M c e out used name p nm:=by obtain⟨p0,h,f⟩:=h;unfold RI gX at h;rw[aA d]at h;obtain⟨j,g,q',a,h⟩:=h;obtain⟨rfl,rfl,rfl⟩:=D8 f a;rw[aA rfl]at h;exact h
def az2 (a:¬c/16%2=1)(p:Nat)(nm:aD)(h:RI b M c e out used name p nm):O1 b M c e out used name p nm:=by unfold RI gX at h;rw[aB a]at h;exact h
def Jw (b:bY)(most:Nat)(e:Nat)(out:aD)(used:Nat)(name:aD)(p:Nat)(nm:aD):Prop:=rY (bytesOf b) most p nm e out used name
def aq5 (a:c/2%2=1)(p:Nat)(nm:aD)(h:O1 b M c e out used name p nm)(d:8*b.size<p+16):qI 3 nm e out used name:=by unfold O1 jG at h;rw[bytesOf_length,aA a,aB (by omega)]at h;exact h
def av0 {u p0:Nat}(f:c/2%2=1)(g:u=aL 0 ((bytesOf b).take (p0/8)))(hn:n≠u%65536)(p:Nat)(nm:aD)(hp:p<=8*b.size)(h:16<=p/\n=aG (bytesOf b) (p-16) 16/\p-16=p0/\O1 b M c e out used name (p-16) nm):qI 12 nm e out used name:=by obtain⟨j,a,d,h⟩:=h;unfold O1 jG at h;rw[bytesOf_length,aA f,aA (by omega),<-a,d,<-g,aB hn]at h;exact h
def aq0 {u p0:Nat}(f:c/2%2=1)(g:u=aL 0 ((bytesOf b).take (p0/8)))(hn:n=u%65536)(p:Nat)(nm:aD)(hp:p<=8*b.size)(h:16<=p/\n=aG (bytesOf b) (p-16) 16/\p-16=p0/\O1 b M c e out used name (p-16) nm):Jw b M e out used name p nm:=by obtain⟨j,a,d,h⟩:=h;unfold O1 jG at h;rw[bytesOf_length,aA f,aA (by omega),<-a,d,<-g,aA hn,show p0+16=p by omega]at h;exact h
def aB3 (a:¬c/2%2=1)(p:Nat)(nm:aD)(h:O1 b M c e out used name p nm):Jw b M e out used name p nm:=by unfold O1 jG at h;rw[aB a]at h;exact h
end Go.Proofs.YtbpahojchgpdnaaGreatDoor
