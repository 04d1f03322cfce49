import Derived.Test.YtbpahojchgpdnaaGreatDoorLaw
import Derived.Test.YtbpahojchgpdnaaGreatDoorGzipB
set_option maxRecDepth 20000
set_option maxHeartbeats 4000000
set_option linter.all false
namespace Go.Proofs.YtbpahojchgpdnaaGreatDoor
open Go.RowKit Go.dM Go.Proofs.Tryz
variable {c e i n:Nat}
def eO (bad:Bool)(e:Nat)(s:XS):XS:=if s.err=0/\bad=true then{ s with err:=e }else s
def Ic (a:Bool)(e:Nat)(s:XS):(eO a e s).v=s.v/\(eO a e s).out=s.out/\(eO a e s).name=s.name/\(eO a e s).most=s.most/\(eO a e s).at_=s.at_:=by
 unfold eO;by_cases h:s.err=0/\a=true
 ·rw[aA h];exact⟨rfl,rfl,rfl,rfl,rfl⟩
 ·rw[aB h];exact⟨rfl,rfl,rfl,rfl,rfl⟩
def iG {a:Bool}{s:XS}(h:s.err≠0):eO a e s=s:=by unfold eO;rw[aB (fun x=>h x.1)]
def mY {s:XS}:eO false e s=s:=by unfold eO;rw[aB (fun x=>by cases x.2)]
def jF {s:XS}(h:s.err=0):eO true e s={ s with err:=e }:=by unfold eO;rw[aA ⟨h,rfl⟩]
def qX (b:bY)(s:XS):XS:=eO (!decide (vT (cB b s 8).1)) 4 (cB b s 8).2
def o7 (b:bY)(s:XS):XS:=eO (!decide (zC (cB b s 8).1 (cB b (qX b s) 8).1)) 4 (cB b (qX b s) 8).2
def az7 (c y:Nat)(a:Bool)(h:a=(!decide (zC c y))):(a=true/\y/32%2=1)\/(a=true/\y/32%2=0/\¬(256*c+y)%31=0)\/(a=false/\y/32%2=0/\(256*c+y)%31=0):=by
 by_cases d:y/32%2=0
 ·by_cases f:(256*c+y)%31=0
  ·exact .inr (.inr ⟨by rw[h,eU (show zC c y from⟨d,f⟩)];rfl,d,f⟩)
  ·exact .inr (.inl ⟨by rw[h,fT (fun x=>f x.2)];rfl,d,f⟩)
 ·exact .inl ⟨by rw[h,fT (fun x=>d x.1)];rfl,by omega⟩
def V5 (x base:Nat)(b:bY)(s:XS)(w:aH)(h:j6 w x base b s):Calls prog 112 #[E x] w fun r w'=>r= .returned (.tuple #[])/\j6 w' x base b (o7 b s)/\dH x w s.v w' s.v:=by
 have m:=(pW b s 8).1;have Z:(cB b s 8).1<256:=jM b s 8;have I:=hide (show∀k,k=eO (!decide (vT (cB b s 8).1)) 4 (cB b s 8).2->o7 b s=eO (!decide (zC (cB b s 8).1 (cB b k 8).1)) 4 (cB b k 8).2 from fun k hs=>by rw[hs];rfl);have W:=hide (gD x base 8 b s w h (by omega));generalize cB b s 8=L at*;obtain⟨c,f⟩:=L;dsimp only at m Z I W;have D:(¬f.err=0/\eO (!decide (vT c)) 4 f=f)\/(f.err=0/\¬c%16=8/\eO (!decide (vT c)) 4 f={ f with err:=4 })\/(f.err=0/\c%16=8/\7<c/16/\eO (!decide (vT c)) 4 f={ f with err:=4 })\/(f.err=0/\c%16=8/\¬7<c/16/\eO (!decide (vT c)) 4 f=f):=by
  by_cases g:f.err=0
  ·by_cases p:c%16=8
   ·by_cases z:7<c/16
    ·exact .inr (.inr (.inl ⟨g,p,z,by rw[fT (fun x=>by have:=x.2;omega)];exact jF g⟩))
    ·exact .inr (.inr (.inr ⟨g,p,z,by rw[eU (show vT c from⟨p,by omega⟩)];exact mY⟩))
   ·exact .inr (.inl ⟨g,p,by rw[fT (fun x=>p x.1)];exact jF g⟩)
  ·exact .inl ⟨g,iG g⟩
 go_enter func112,ntmps112;go_wp2_with fail;apply W.o.mono;rintro r w1 ⟨rfl,p,F⟩;obtain⟨_,_,e1,_⟩:=p.cell;have d:=hide (show∀(k:XS) (w2:aH),j6 w2 x base b k->k.v=s.v->k=eO (!decide (vT c)) 4 f->dH x w s.v w2 s.v->Calls prog 140 #[E x,V 8] w2 fun r w'=>∃(y:Nat) (A:XS) (u:Bool),r= .returned (V y)/\y<256/\u=(!decide (zC c y))/\j6 w' x base b A/\o7 b s=eO u 4 A/\A.v=s.v/\dH x w s.v w' s.v from fun k w2 z S hs Y=>by
  apply(gD x base 8 b k w2 z (by omega)).mono;rintro r w3 ⟨rfl,B,q⟩;rw[S]at q;exact⟨_,_,_,rfl,jM b k 8,rfl,B,I.o k hs,(pW b k 8).1.trans S,Y.trans q⟩)
 rcases D with⟨g,H⟩|⟨g,T,H⟩|⟨g,T,C,H⟩|⟨g,T,C,H⟩
 focus
  have t:((f.err:Int)==0)=false:=aX.2 (by omega);have N:=hide (d.o f w1 p m H.symm F);go_wp2_with fail
 rotate_left 3;focus
  have t:((f.err:Int)==0)=true:=dI.2 (by omega);have R:(c:Int)%16=8:=by omega
  have X:¬7<(c:Int)/16:=by omega
  have N:=hide (d.o f w1 p m H.symm F);go_wp2_with fail
 rotate_left 2;iterate 2
  focus
   have t:((f.err:Int)==0)=true:=dI.2 (by omega);first
    |have X:((c:Int)%16 !=8)=true:=jP.2 (by omega)
    |have R:(c:Int)%16=8:=by omega
     have X:7<(c:Int)/16:=by omega
   have G:=hide (iK x base 4 b f w1 p);go_wp2_with fail;apply G.o.mono;rintro r w2 ⟨rfl,z,l⟩;rw[aA g]at z;rw[m]at l;have N:=hide (d.o _ w2 z m H.symm (F.trans l));go_wp2_with fail
  rotate_left
 all_goals
  apply N.o.mono;rintro r w5 ⟨y,A,u,rfl,hy,J,B,hz,P,q⟩;have a:=hide (aQ hz (aQ q P));obtain⟨_,_,e3,_⟩:=B.cell;have Q:=az7 c y u J;by_cases g:A.err=0
  ·have t:((A.err:Int)==0)=true:=dI.2 (by omega);rcases Q with⟨C,k1⟩|⟨C,k1,k2⟩|⟨C,k1,k2⟩
   focus
    have L:(y:Int)/32%2=1:=(by omega);rw[C,jF g]at a;have G:=hide (iK x base 4 b A w5 B);rw[aA g]at G
   rotate_left;focus
    have L:(y:Int)/32%2=0:=(by omega);have q2:((256*(c:Int)+(y:Int))%31 !=0)=true:=jP.2 (by omega);rw[C,jF g]at a;have G:=hide (iK x base 4 b A w5 B);rw[aA g]at G
   rotate_left
   ·have L:(y:Int)/32%2=0:=(by omega);have q2:(256*(c:Int)+(y:Int))%31=0:=(by omega);rw[C,mY]at a;have j:=hide (show j6 w5 x base b (o7 b s)/\dH x w s.v w5 s.v from⟨by rw[a.o.1];exact B,a.o.2.1⟩);go_wp2_with fail;go_end0;exact⟨rfl,j.o⟩
   all_goals
    go_wp2_with fail;apply G.o.mono;rintro r w2 ⟨rfl,z,l⟩;rw[a.o.2.2]at l;have j:=hide (show j6 w2 x base b (o7 b s)/\dH x w s.v w2 s.v from⟨by rw[a.o.1];exact z,a.o.2.1.trans l⟩);go_wp2_with fail;go_end0;exact⟨rfl,j.o⟩
  ·have t:((A.err:Int)==0)=false:=aX.2 (by omega);rw[iG g]at a;have j:=hide (show j6 w5 x base b (o7 b s)/\dH x w s.v w5 s.v from⟨by rw[a.o.1];exact B,a.o.2.1⟩);go_wp2_with fail;go_end0;exact⟨rfl,j.o⟩
def xC (out:aD)(h:iR out):bytesOf (strOf out)=out:=by
 unfold bytesOf strOf;rw[strOfNums_data,List.map_map,List.map_map];conv=>rhs;rw[<-List.map_id out]
 refine IY fun x a=> ?_;have:=h x a;simp;omega
def qW (out:aD):(strOf out).size=out.length:=by unfold strOf;rw[strOfNums_size,nG]
def nQ (b:bY)(s:XS):Nat->Nat×XS
 |0=>(0,s)
 |n+1=>((nQ b s n).1*256+(cB b (nQ b s n).2 8).1,(cB b (nQ b s n).2 8).2)
def KN (b:bY)(s:XS)(n:Nat):nQ b s (n+1)=((nQ b s n).1*256+(cB b (nQ b s n).2 8).1,(cB b (nQ b s n).2 8).2):=by rw[nQ]
def PI (b:bY)(s:XS)(n:Nat):(nQ b s (n+1)).1=(nQ b s n).1*256+(cB b (nQ b s n).2 8).1:=by rw[KN]
def JH (b:bY)(s:XS)(n:Nat):(nQ b s (n+1)).2=(cB b (nQ b s n).2 8).2:=by rw[KN]
def ab0 (b:bY)(s:XS)(n:Nat):(nQ b s n).2.v=s.v/\(nQ b s n).2.out=s.out/\(nQ b s n).2.most=s.most/\(nQ b s n).2.name=s.name:=by
 induction n with
 |zero=>exact⟨rfl,rfl,rfl,rfl⟩
 |succ n ih=>
  obtain⟨d,g,a,f⟩:=pW b (nQ b s n).2 8;rw[JH];exact⟨d.trans ih.1,g.trans ih.2.1,a.trans ih.2.2.1,f.trans ih.2.2.2⟩
def Qd (b:bY)(s:XS)(n:Nat):(nQ b s n).1<256^n:=by
 induction n with
 |zero=>exact Nat.one_pos
 |succ n ih=>
  have h:(cB b (nQ b s n).2 8).1<256:=jM b _ 8;rw[PI,gW];omega
def Yg (b:bY)(s:XS)(h:s.err≠0)(n:Nat):(nQ b s n).2=s:=by
 induction n with
 |zero=>rfl
 |succ n ih=>rw[JH,ih,oD b s h]
def Pw (b:bY)(s:XS)(h:s.err=0)(n:Nat)(hn:s.at_+8*n<=8*b.size):nQ b s n=(jB (bytesOf b) s.at_ n,{ s with at_:=s.at_+8*n }):=by
 induction n with
 |zero=>rfl
 |succ n ih=>
  have d:=jH b { s with at_:=s.at_+8*n } h 8 (by show s.at_+8*n+8<=_;omega);have a:jB (bytesOf b) s.at_ (n+1)=256*jB (bytesOf b) s.at_ n+aG (bytesOf b) (s.at_+8*n) 8:=by rw[jB]
  rw[KN,ih (by omega),d,a,nH 256,show s.at_+8*(n+1)=s.at_+8*n+8 by omega]
def Uk (b:bY)(s:XS)(h:s.err=0)(f:s.at_<=8*b.size)(n:Nat)(hn:8*b.size<s.at_+8*n):(nQ b s n).2={ s with at_:=8*b.size,err:=3 }:=by
 induction n with
 |zero=>omega
 |succ n ih=>
  rw[JH];by_cases d:s.at_+8*n<=8*b.size
  ·have a:=j3 b { s with at_:=s.at_+8*n } h d 8 (by show _<s.at_+8*n+8;omega);rw[Pw b s h n d,a]
  ·have a:=oD b { s with at_:=8*b.size,err:=3 } (by show(3:Nat)≠0;decide) 8;rw[ih (by omega),a]
def vI (b:bY)(s:XS):XS:=eO (!decide ((nQ b s 4).1=dZ 1 s.out)) 12 (nQ b s 4).2
def Xb (x base i:Nat)(b:bY)(s:XS)(w wr:aH)(o:j6 wr x base b (nQ b s i).2)(l:dH x w s.v wr s.v)(m:i<4):∃u c:Nat,u=(nQ b s i).1/\u*256+c<4294967296/\c<256/\Calls prog 140 #[E x,V 8] wr fun r w1=>r= .returned (V c)/\∃y:Nat,y=u*256+c/\y=(nQ b s (i+1)).1/\j6 w1 x base b (nQ b s (i+1)).2/\dH x w s.v w1 s.v:=by have j:=(ab0 b s i).1;have g:=gD x base 8 b (nQ b s i).2 wr o (by omega);rw[j]at g;have a:=Qd b s (i+1);have d:256^(i+1)<=256^4:=gL (by omega) (by omega);rw[PI]at a;refine⟨_,_,rfl,nM a d,jM b (nQ b s i).2 8,g.mono ?_⟩;rintro r w1 ⟨rfl,k,f⟩;exact⟨rfl,_,rfl,(PI b s i).symm,by rw[JH];exact k,l.trans f⟩
def ak8 (x base:Nat)(b:bY)(s:XS)(wr:aH)(d:j6 wr x base b (nQ b s 4).2):∃(c:Nat) (s1:XS),c=(nQ b s 4).1/\c<4294967296/\j6 wr x base b s1/\s1.v=s.v/\s1.out=s.out/\vI b s=eO (!decide (c=dZ 1 s.out)) 12 s1:=by obtain⟨a,f,_⟩:=ab0 b s 4;exact⟨_,_,rfl,Qd b s 4,d,a,f,by rw[vI]⟩
def V4 (x base:Nat)(b:bY)(s:XS)(w:aH)(h:j6 w x base b s)(hb:iR s.out)(hl:s.out.length<=1048576):Calls prog 113 #[E x] w fun r w'=>r= .returned (.tuple #[])/\j6 w' x base b (vI b s)/\dH x w s.v w' s.v:=by
 have HH:=hide h;clear h;go_enter func113,ntmps113;go_wp2_with fail;go_loopg [2,3] 4 (fun k u2 u3 wr=>∃i:Nat,u3=V i/\k+i=4/\u2= .int .u32 ((nQ b s i).1:Nat)/\j6 wr x base b (nQ b s i).2/\dH x w s.v wr s.v);case atStart=>exact⟨0,rfl,rfl,rfl,HH.o,dH.refl _ _ _⟩
 case round=>
  obtain⟨i,rfl,hi,rfl,G,F⟩:=hrel;by_cases T:i<4
  ·obtain⟨u,c,hu,ad,P,hN⟩:=Xb x base i b s w wr G F T;rw[<-hu];have HN:=hide hN;clear hN F G hu;go_wp2_with fail;apply HN.o.mono;rintro r w1 ⟨rfl,y,hy,L,h1,J⟩;have R:=hide (aQ hy (aQ L (aQ h1 J)));clear h1 J HN hy L;go_wp2_with fail;go_roundg (gk-1);case measure=>omega
   case rel=>
    refine⟨i+1,by simp,by omega,?_,R.o.2.2⟩;rw[<-R.o.2.1,R.o.1];simp
  ·obtain rfl:i=4:=by omega
   obtain⟨c,j,P,ac,d,z,l,B⟩:=ak8 x base b s wr G;rw[<-P];obtain⟨_,_,e1,e3,_⟩:=d.cell;have C:=hide (aQ d (aQ z (aQ l B)));have S:=hide F;by_cases N:j.err=0
   ·have Y:((j.err:Int)==0)=true:=dI.2 (by omega);have D:bytesOf (strOf s.out)=s.out:=xC _ hb;have g:=hide (fun W=>Yt (strOf s.out) W (by rw[qW];omega));rw[D]at g;obtain⟨va,vc,q⟩:=d.vQ;have A:∀W,O wr W->(convert 31 9 (.slice va j.out.length vc)).run prog W= .ok (.string (strOf s.out)) W:=fun W hW=>by
     rw[<-q,<-l];exact qO (d.step0 hW).own
    rw[q]at e3;have ab:=A wr (aU _ _);have aa:=A wr.drew ((aU _ _).drew);have Z:=vB 1 (by decide) s.out;have H0:=hide N;generalize j.out.length=no at*;clear G F P d z l B D A q N;go_wp2_with fail;apply(g.o wr).mono;rintro r w2 ⟨rfl,rfl⟩;have HA:=hide (show∀a,a=dZ 1 s.out->vI b s=eO (!decide (c=a)) 12 j from fun a I=>by rw[I];exact C.o.2.2.2);obtain⟨a,I⟩:=aP (dZ 1 s.out);have p:=hide (HA.o a I);rw[<-I];clear HA I Z g;by_cases m:c=a
    ·have X:((c:Int) !=(a:Int))=false:=(by rw[tY];omega);have f:=hide (show j6 w2 x base b (vI b s) by rw[p.o,eU m];show j6 w2 x base b (eO false 12 j);rw[mY];exact C.o.1);clear m p;go_wp2_with fail;go_end0;exact⟨rfl,f.o,S.o⟩
    ·have X:((c:Int) !=(a:Int))=true:=(by rw[jP];omega);have Q:=hide (iK x base 12 b j w2 C.o.1);rw[aA H0.o]at Q;have H:=hide (show vI b s={ j with err:=12 } by rw[p.o,fT m];exact jF H0.o);clear m p;go_wp2_with fail;apply Q.o.mono;rintro r w3 ⟨rfl,h3,t⟩;rw[C.o.2.1]at t;have f:=hide (show j6 w3 x base b (vI b s)/\dH x w s.v w3 s.v from⟨by rw[H.o];exact h3,S.o.trans t⟩);clear h3 t Q H;go_wp2_with fail;go_end0;exact⟨rfl,f.o⟩
   ·have Y:((j.err:Int)==0)=false:=aX.2 (by omega);have HE:=hide N;clear G F P d z l B N;go_wp2_with fail;go_end0;exact⟨rfl,by rw[C.o.2.2.2,iG HE.o];exact C.o.1,S.o⟩
open Go.Maps
def AP (l:aD):strOf l=eP l:=by unfold strOf eP strOfNums;rw[List.map_map];rfl
def Fh (l m:aD):strOf l++strOf m=strOf (l++m):=by rw[AP,AP,AP];apply IU;simp[eP]
def uT (b:bY)(s:XS)(ok:Bool)(q:Nat):XS:=if ok=true then{ s with at_:=q }else{ s with at_:=8*b.size,err:=3 }
def ad5 (x base p:Nat)(b:bY)(s:XS)(l:aD)(ok:Bool)(q:Nat)(w wr:aH)(h:j6 wr x base b { s with at_:=p })(A:dH x w s.v wr s.v)(j:s.err=0)(y:lI (bytesOf b) p l ok q):∃(c:Nat) (s':XS),c<256/\Calls prog 140 #[E x,V 8] wr (fun r w1=>r= .returned (V c)/\j6 w1 x base b s'/\dH x w s.v w1 s.v)/\((l=[]/\s'=uT b s ok q/\s'.err≠0)\/(l=[]/\s'=uT b s ok q/\s'.err=0/\c=0)\/(c≠0/\s'={ s with at_:=p+8 }/\s'.err=0/\∃g,l=c::g/\lI (bytesOf b) (p+8) g ok q)):=by
 have z:=gD x base 8 b { s with at_:=p } wr h (by omega);have m:(cB b { s with at_:=p } 8).1<256:=jM b _ 8;have t:p<=8*b.size:=h.there;have u:=bytesOf_length b;refine⟨(cB b { s with at_:=p } 8).1,(cB b { s with at_:=p } 8).2,m,z.mono (fun r w1 ⟨a,d,k⟩=>⟨a,d,A.trans k⟩),?_⟩;by_cases hp:p+8<=8*b.size
 ·have o:=jH b { s with at_:=p } j 8 hp;rw[o];rcases y with⟨_,a⟩|⟨_,a,d⟩|⟨_,g,_,_,a,d,k⟩
  ·rw[u]at a;omega
  ·exact .inr (.inl ⟨rfl,by unfold uT;rw[aA rfl],j,d⟩)
  ·exact .inr (.inr ⟨d,rfl,j,g,rfl,k⟩)
 ·have f:=j3 b { s with at_:=p } j t 8 (by show _<p+8;omega);rcases y with⟨_,a⟩|⟨_,a,d⟩|⟨_,g,_,_,a,d,k⟩
  ·refine .inl ⟨rfl,?_,by rw[f];simp⟩;rw[f];unfold uT;rw[aB (by simp)]
  ·rw[u]at a;omega
  ·rw[u]at a;omega
def Yc (c:Nat)(W:aH):(convert 31 9 (.slice (some (U W.heap.size 0)) 1 1)).run prog (W.alloc (.cells #[.int .u8 (c:Nat)] 5))= .ok (.string (strOf [c])) (W.alloc (.cells #[.int .u8 (c:Nat)] 5)):=
 P6 (W.alloc (.cells #[.int .u8 (c:Nat)] 5)) 31 5 underlying31 underlying5 W.heap.size 0 1 1 [(c:Int)] (by simp) (fun j a=>by
  obtain rfl:j=0:=by omega
  exact jO (aR _ _)) 9 underlying9
def Ta (x base:Nat)(b:bY)(s:XS)(l:aD)(ok:Bool)(q:Nat)(w:aH)(h:j6 w x base b s)(I:s.err=0)(S:lI (bytesOf b) s.at_ l ok q):Calls prog 148 #[E x] w fun r w'=>r= .returned (.string (strOf l))/\j6 w' x base b (uT b s ok q)/\dH x w s.v w' s.v:=by
 have Q:=hide h;have N:=hide S;have R:=hide I;clear h S I;go_enter func148,ntmps148;go_wp2_with fail;go_loopg [3] (b.size+1) (fun k u3 wr=>∃(l1 l2:aD) (p:Nat),l=l1++l2/\u3= .string (strOf l1)/\lI (bytesOf b) p l2 ok q/\j6 wr x base b { s with at_:=p }/\dH x w s.v wr s.v/\8*b.size+8<=p+8*k);case atStart=>exact⟨[],l,s.at_,rfl,rfl,N.o,Q.o,dH.refl _ _ _,by omega⟩
 case round=>
  obtain⟨l1,l2,p,P,rfl,A,D,J,hk⟩:=hrel;have ab:p<=8*b.size:=D.there;obtain⟨c,s',hc,H,j⟩:=ad5 x base p b s l2 ok q w wr D J R.o A;obtain⟨_,_,Z,_⟩:=D.cell;rw[show(XS.err { s with at_:=p })=0 from R.o]at Z;have G:=hide H;have m:=hide P;clear D J A H P;go_wp2_with fail;apply G.o.mono;rintro r w1 ⟨rfl,g,f⟩;obtain⟨_,_,W,_⟩:=g.cell;rcases j with⟨rfl,d,y⟩|⟨rfl,d,y,z⟩|⟨z,d,y,l3,u,t⟩
  ·have B:((s'.err:Int) !=0)=true:=jP.2 (by omega);have a:=hide (show j6 w1 x base b (uT b s ok q)/\dH x w s.v w1 s.v/\l=l1 from⟨by rw[<-d];exact g,f,by rw[m.o,bG]⟩);clear g f d y G m;go_wp2_with fail;go_ret;exact⟨by rw[a.o.2.2];rfl,a.o.1,a.o.2.1⟩
  ·have B:((s'.err:Int) !=0)=false:=(by rw[tY];omega);have a:=hide (show j6 w1 x base b (uT b s ok q)/\dH x w s.v w1 s.v/\l=l1 from⟨by rw[<-d];exact g,f,by rw[m.o,bG]⟩);clear g f d y G m;subst z;go_wp2_with fail;go_ret;exact⟨by rw[a.o.2.2];rfl,a.o.1,a.o.2.1⟩
  ·have B:((s'.err:Int) !=0)=false:=(by rw[tY];omega);have Y:((c:Int)==0)=false:=aX.2 (by omega);have aa:=Yc c w1;have ac:¬9223372036854775807<(strOf l1).size+(strOf [c]).size:=by
    rw[qW,qW];have F:=N.o.len;have h8:=Q.o.much;have h7:=bytesOf_length b;have L:l.length=l1.length+l2.length:=(by rw[m.o,aN]);rcases F with F|F
    ·simp;omega
    ·rw[F]at L;simp at L;simp;omega
   have a:=hide (aQ g (aQ f (aQ d (aQ u t))));clear g f d y G u t;go_wp2_with fail;go_roundg (gk-1);case measure=>omega
   case rel=>
    obtain⟨f1,f2,T,f4,X⟩:=a.o;have C:=(aU (fun _=>False) w1).alloc (.cells #[.int .u8 (c:Nat)] 5);refine⟨l1++[c],l3,p+8,by rw[m.o,f4,dB];rfl,by rw[<-Fh],X,?_,f2.step0 C,by omega⟩;rw[<-T];exact f1.step0 C
def Ki (l:aD)(c:Nat):gY (l++[c])=gY l++uG c:=by simp[gY]
def Rv (l:aD):(gY l).length<=2*l.length:=by
 induction l with
 |nil=>simp[gY]
 |cons c l ih=>
  have d:(uG c).length<=2:=by unfold uG;split<;>simp
  have a:gY (c::l)=uG c++gY l:=by simp[gY]
  rw[a,aN,iN];omega
def an7 (b:bY)(i:Nat)(h:i<b.size):b.extract i (i+1)=strOf [b[i].toNat]:=by
 rw[AP];apply IU;have g:i<b.data.size:=h;simp only[ByteArray.data_extract,eP,uI,List.map_nil,UInt8.ofNat_toNat];apply Array.ext
 ·simp;omega
 ·intro j f a;have d:j=0:=by simp at a;exact a
  subst d;simp;rfl
def Zv (c d:Nat)(W:aH):(convert 31 9 (.slice (some (U W.heap.size 0)) 2 2)).run prog (W.alloc (.cells #[.int .u8 (c:Nat), .int .u8 (d:Nat)] 5))= .ok (.string (strOf [c,d])) (W.alloc (.cells #[.int .u8 (c:Nat), .int .u8 (d:Nat)] 5)):=
 P6 (W.alloc (.cells #[.int .u8 (c:Nat), .int .u8 (d:Nat)] 5)) 31 5 underlying31 underlying5 W.heap.size 0 2 2 [(c:Int),(d:Int)] (by simp) (fun j f=>by
  have a:=aR W (.cells #[.int .u8 (c:Nat), .int .u8 (d:Nat)] 5)
  match j,f with
  |0,_=>exact aC a 0 _ rfl
  |1,_=>exact aC a 1 _ rfl) 9 underlying9
def Lu (b:bY)(w:aH)(H:b.size<=140737488351232):Calls prog 149 #[.string b] w fun r w'=>r= .returned (.string (strOf (gY (bytesOf b))))/\O w w':=by
 go_enter func149,ntmps149;go_wp2_with fail;go_loopg [3,4] b.size (fun k u3 u4 wr=>∃(i:Nat) (y:bY),u4=V i/\k+i=b.size/\y=strOf (gY ((bytesOf b).take i))/\u3= .string y/\O w wr);case atStart=>exact⟨0,_,rfl,by omega,rfl,rfl,aU _ _⟩
 case round=>
  obtain⟨i,y,rfl,hk,l,rfl,t⟩:=hrel;have F:=hide l;have u:=hide t;by_cases p:i=b.size
  ·have A:¬((i:Int)<(b.size:Int)):=(by omega);have D:=hide (show strOf (gY (bytesOf b))=y from by rw[l,kW (by rw[bytesOf_length];omega)]);clear p l t;go_wp2_with fail;go_ret;exact⟨by rw[D.o];rfl,u.o⟩
  ·have A:(i:Int)<(b.size:Int):=(by omega);have C:(0:Int)<=(i:Int):=(by omega);have m:i<b.size:=(by omega);have G:b[i].toNat<256:=b[i].toNat_lt;have B:y.size<=2*i:=by
    rw[l,qW];refine bB (Rv _) ?_;rw[dF];omega
   have q:=hide (show strOf (gY ((bytesOf b).take (i+1)))=y++strOf (uG b[i].toNat) from by rw[bytesOf_take b i m,Ki,<-Fh,l]);have a:=an7 b i m;clear l t;by_cases f:b[i].toNat<128
   ·have g:((b[i].toNat:Nat):Int)<128:=(by omega);have d:uG b[i].toNat=[b[i].toNat]:=(by unfold uG;rw[aA f]);rw[d,<-a]at q;have j:(b.extract i (i+1)).size=1:=(by rw[a,qW];rfl);have z:¬9223372036854775807<y.size+(b.extract i (i+1)).size:=(by omega);clear d a j;go_wp2_with fail;go_roundg (gk-1);case measure=>omega
    case rel=>exact⟨i+1,_,by simp,by omega,q.o.symm,rfl,u.o⟩
   ·have g:¬((b[i].toNat:Nat):Int)<128:=(by omega);have d:uG b[i].toNat=[192+b[i].toNat/64,128+b[i].toNat%64]:=(by unfold uG;rw[aB f]);rw[d]at q;have v:=Zv (192+b[i].toNat/64) (128+b[i].toNat%64) wr;rw[show((192+b[i].toNat/64:Nat):Int)=192+(b[i].toNat:Int)/64 by omega,show((128+b[i].toNat%64:Nat):Int)=128+(b[i].toNat:Int)%64 by omega]at v;have j:(strOf [192+b[i].toNat/64,128+b[i].toNat%64]).size=2:=(by rw[qW];rfl);have z:¬9223372036854775807<y.size+(strOf [192+b[i].toNat/64,128+b[i].toNat%64]).size:=(by omega);clear d a j;go_wp2_with fail;go_roundg (gk-1);case measure=>omega
    case rel=>exact⟨i+1,_,by simp,by omega,q.o.symm,rfl,u.o.alloc _⟩
structure GA (b:bY)(x base M:Nat)(wA w:aH)(K:Nat->aD->Prop)(e:Nat)(out:aD)(used:Nat)(name:aD)(s:XS):Prop where
 xat:j6 w x base b s
 vv:s.v= .slice none 0 0
 oo:s.out=[]
 mm:s.most=M
 step:Step (·=x) wA w
 st:(s.err=0/\∃nm,s.name=eP nm/\K s.at_ nm)\/(s.err≠0/\∃nm,s.name=eP nm/\qI s.err nm e out used name)
variable {b:bY} {x base M:Nat} {wA w:aH} {K K':Nat->aD->Prop} {e:Nat} {out:aD} {used:Nat} {name:aD} {s:XS}
def GA.weaken (h:GA b x base M wA w K e out used name s)(f:s.err=0->∀p nm,p<=8*b.size->K p nm->K' p nm):GA b x base M wA w K' e out used name s:=⟨h.xat,h.vv,h.oo,h.mm,h.step,h.st.imp (fun⟨a,nm,g,d⟩=>⟨a,nm,g,f a _ _ h.xat.there d⟩) id⟩
def GA.dead (h:GA b x base M wA w K e out used name s)(hs:s.err≠0):GA b x base M wA w K' e out used name s:=h.weaken (fun y=>absurd y hs)
def GA.live (h:GA b x base M wA w K e out used name s)(hs:s.err=0):∃nm,s.name=eP nm/\K s.at_ nm:=by
 rcases h.st with⟨_,y⟩|⟨y,_⟩
 ·exact y
 ·exact absurd hs y
def GA.step0 {w':aH}(h:GA b x base M wA w K e out used name s)(hs:O w w'):GA b x base M wA w' K e out used name s:=⟨h.xat.step0 hs,h.vv,h.oo,h.mm,h.step.trans (hs.mono (fun _ y=>y.elim)),h.st⟩
def JJ {x:Nat}{w w':aH}{v:aK}(h:dH x w v w' v)(a:v= .slice none 0 0):Step (·=x) w w':=h.step.mono (fun k y=>by
 rcases y with y|y
 ·exact y
 ·rw[a]at y;cases y)
def GA.num (h:GA b x base M wA w K e out used name s)(a:Nat)(hn:a<=60)(m:∀p nm,K p nm->p<=8*b.size->8*b.size<p+a->qI 3 nm e out used name):∃c:Nat,c<2^a/\Calls prog 140 #[E x,V a] w (fun r w1=>r= .returned (V c)/\∃o,GA b x base M wA w1 (fun p nm=>a<=p/\c=aG (bytesOf b) (p-a) a/\K (p-a) nm) e out used name o):=by
 obtain⟨v1,t,q,j⟩:=pW b s a;have k:=gD x base a b s w h.xat hn;refine⟨(cB b s a).1,jM b s a,k.mono ?_⟩;rintro r w1 ⟨rfl,l,u⟩;refine⟨rfl,(cB b s a).2,l,v1.trans h.vv,t.trans h.oo,q.trans h.mm,h.step.trans (JJ u h.vv),?_⟩;rw[j];rcases h.st with⟨k1,nm,k2,d⟩|⟨k1,nm,k2,d⟩
 ·by_cases hp:s.at_+a<=8*b.size
  ·have g:=jH b s k1 a hp;rw[g];refine .inl ⟨k1,nm,k2,?_,?_,?_⟩
   ·show a<=s.at_+a;omega
   ·show aG (bytesOf b) s.at_ a=aG (bytesOf b) (s.at_+a-a) a;rw[sV]
   ·show K (s.at_+a-a) nm;rw[sV];exact d
  ·have f:=j3 b s k1 h.xat.there a (by omega);rw[f];exact .inr ⟨by show(3:Nat)≠0;decide,nm,k2,m _ nm d h.xat.there (by omega)⟩
 ·rw[oD b s k1 a];exact .inr ⟨k1,nm,k2,d⟩
def GA.fail (h:GA b x base M wA w K e out used name s)(f:s.err=0)(d:Nat)(m:d≠0)(a:∀p nm,p<=8*b.size->K p nm->qI d nm e out used name):Calls prog 145 #[E x,V d] w fun r w1=>r= .returned (.tuple #[])/\∃k,GA b x base M wA w1 K' e out used name k:=by obtain⟨nm,k2,j⟩:=h.live f;apply(iK x base d b s w h.xat).mono;rintro r w1 ⟨rfl,g,l⟩;rw[aA f]at g;exact⟨rfl,_,g,h.vv,h.oo,h.mm,h.step.trans (JJ l h.vv), .inr ⟨m,nm,k2,a _ _ h.xat.there j⟩⟩
def GA.pin (h:GA b x base M wA w K e out used name s):GA b x base M wA w (fun p nm=>p=s.at_/\K p nm) e out used name s:=⟨h.xat,h.vv,h.oo,h.mm,h.step,h.st.imp (fun⟨d,nm,f,a⟩=>⟨d,nm,f,rfl,a⟩) id⟩
def VF (b:bY)(k:Nat):bytesOf (b.extract 0 k)=(bytesOf b).take k:=by unfold bytesOf;simp
def Cn (b:bY)(k:Nat)(h:k<=b.size)(W:aH):(Instr.slice 9 (.string b) none (some (V (k:Int))) none).run prog W= .ok (.string (b.extract 0 k)) W:=by
 have a:=underlying9;have d:(0:Int)<=(k:Int):=by omega
 have f:(k:Int)<=(b.size:Int):=by omega
 simp[Instr.slice,Instr.sliceBounds,Instr.sliceBound,asIntOf,x9 a,h]
def Sw (x base:Nat)(b:bY)(s:XS)(w:aH)(h:j6 w x base b s)(a:s.err≠0):Calls prog 148 #[E x] w fun r w'=>r= .returned (.string (strOf []))/\w'=w:=by
 obtain⟨_,_,f,_⟩:=h.cell;have d:((s.err:Int)==0)=false:=aX.2 (by omega);clear h a;go_enter func148,ntmps148;go_wp2_with fail;go_loopg [3] 1 (fun _ u3 wr=>u3= .string (strOf [])/\wr=w);case atStart=>exact⟨rfl,rfl⟩
 case round=>
  obtain⟨rfl,rfl⟩:=hrel;go_wp2_with fail;go_ret;exact⟨rfl,rfl⟩
def GA.text (h:GA b x base M wA w K e out used name s)(m:∀p nm l q,K p nm->lI (bytesOf b) p l false q->qI 3 nm e out used name):∃l:aD,l.length<=b.size/\Calls prog 148 #[E x] w (fun r w1=>r= .returned (.string (strOf l))/\∃o,GA b x base M wA w1 (fun p nm=>∃p0,K p0 nm/\lI (bytesOf b) p0 l true p) e out used name o):=by
 by_cases a:s.err=0
 ·obtain⟨nm,k2,j⟩:=h.live a;obtain⟨l,ok,q,g⟩:=TS (bytesOf b) (8*b.size) s.at_ (by rw[bytesOf_length];omega);have f:l.length<=b.size:=by
   rcases g.len with y|y
   ·rw[bytesOf_length]at y;omega
   ·rw[y];simp
  refine⟨l,f,(Ta x base b s l ok q w h.xat a g).mono ?_⟩;rintro r w1 ⟨rfl,d,k⟩;refine⟨rfl,uT b s ok q,?_⟩;unfold uT at d|-
  cases ok with
  |true=>
   rw[aA rfl]at d|-
   exact⟨d,h.vv,h.oo,h.mm,h.step.trans (JJ k h.vv), .inl ⟨a,nm,k2,s.at_,j,g⟩⟩
  |false=>
   rw[aB (by simp)]at d|-
   exact⟨d,h.vv,h.oo,h.mm,h.step.trans (JJ k h.vv), .inr ⟨by show(3:Nat)≠0;decide,nm,k2,m _ nm l q j g⟩⟩
 ·refine⟨[],iZ _,(Sw x base b s w h.xat a).mono ?_⟩;rintro r w1 ⟨rfl,rfl⟩;exact⟨rfl,s,h.dead a⟩
def GA.named (h:GA b x base M wA w K e out used name s)(a:s.err=0)(l:aD)(f:∀p nm,K p nm->K' p l):GA b x base M wA (w.setCell (U x 5) (.string (strOf l))) K' e out used name { s with name:=strOf l }:=by obtain⟨nm,k2,d⟩:=h.live a;refine⟨h.xat.set (s':={ s with name:=strOf l }) 5 (.string (strOf l)) (by simp[XS.cells]) rfl rfl h.xat.there,h.vv,h.oo,h.mm,h.step.setCell (p:=(U x 5)) rfl _, .inl ⟨a,l,AP l,f _ _ d⟩⟩
def nJ (b:bY)(s:XS):XS:=eO (!decide ((cB b s 32).1=aL 0 s.out)) 12 (cB b s 32).2
def uE (b:bY)(s:XS):XS:=eO (!decide ((cB b (nJ b s) 32).1=s.out.length)) 12 (cB b (nJ b s) 32).2
def Gt (x base n:Nat)(b:bY)(s a:XS)(w wr:aH)(h:j6 wr x base b s)(hn:n<=60)(d:s.v=a.v)(l:s.out=a.out)(j:dH x w a.v wr a.v):∃(c:Nat) (s1:XS),c=(cB b s n).1/\s1=(cB b s n).2/\c<2^n/\s1.v=a.v/\s1.out=a.out/\Calls prog 140 #[E x,V n] wr fun r w1=>r= .returned (V c)/\j6 w1 x base b s1/\dH x w a.v w1 a.v:=by obtain⟨v1,m,_,_⟩:=pW b s n;have f:=gD x base n b s wr h hn;rw[d]at f;exact⟨_,_,rfl,rfl,jM b s n,v1.trans d,m.trans l,f.mono (fun r w1 ⟨g,o,k⟩=>⟨g,o,j.trans k⟩)⟩
def VJ (x base:Nat)(b:bY)(s:XS)(w:aH)(h:j6 w x base b s)(hb:iR s.out)(hl:s.out.length<=1048576):Calls prog 115 #[E x] w fun r w'=>r= .returned (.tuple #[])/\j6 w' x base b (uE b s)/\dH x w s.v w' s.v:=by
 obtain⟨a,p,ha,ah,ad,ac,S,hN⟩:=Gt x base 32 b s s w w h (by omega) rfl rfl (dH.refl _ _ _);have ad:a<4294967296:=ad;have A:=hide (show nJ b s=eO (!decide (a=aL 0 s.out)) 12 p by rw[nJ,ha,ah]);have ab:=hide (show uE b s=eO (!decide ((cB b (nJ b s) 32).1=s.out.length)) 12 (cB b (nJ b s) 32).2 by rw[uE]);have HN:=hide hN;clear hN ha ah h;have j:=hide (show∀(Z:XS) (w2:aH),j6 w2 x base b Z->Z.v=s.v->Z.out=s.out->Z=nJ b s->dH x w s.v w2 s.v->∃(y:Nat) (m:XS),y<4294967296/\uE b s=eO (!decide (y=s.out.length)) 12 m/\m.v=s.v/\m.out=s.out/\Calls prog 140 #[E x,V 32] w2 fun r w1=>r= .returned (V y)/\j6 w1 x base b m/\dH x w s.v w1 s.v from fun Z w2 h2 hv ho he hw=>by
  obtain⟨y,m,hy,ar,F,d,g,f⟩:=Gt x base 32 b Z s w w2 h2 (by omega) hv ho hw;exact⟨y,m,F,by rw[ab.o,hy,ar,he],d,g,f⟩)
 clear ab;go_enter func115,ntmps115;go_wp2_with fail;apply HN.o.mono;rintro r w1 ⟨rfl,h1,ae⟩;obtain⟨_,_,e2,e3,_⟩:=h1.cell;have H1:=hide (aQ h1 ae);have ak:bytesOf (strOf s.out)=s.out:=xC _ hb;have C:=hide (fun W=>TU (strOf s.out) W (by rw[qW];omega));rw[ak]at C;obtain⟨va,vc,B⟩:=h1.vQ;have ao:(convert 31 9 (.slice va p.out.length vc)).run prog w1= .ok (.string (strOf s.out)) w1:=by
  rw[<-B,<-S];exact qO h1.own
 rw[B]at e3;have q:=hide (aQ ac (aQ S B));obtain⟨no,ai⟩:=aP p.out.length;rw[<-ai]at e3 ao;obtain⟨u,hu⟩:=aP (aL 0 s.out);have av:u<4294967296:=by rw[hu];exact iW _ _
 rw[<-hu]at C A;clear h1 ae ak ac S B HN ai hu;have T:(¬p.err=0/\nJ b s=p)\/(p.err=0/\a=u/\nJ b s=p)\/(p.err=0/\¬a=u/\nJ b s={ p with err:=12 }):=by
  by_cases k:p.err=0
  ·by_cases h2:a=u
   ·exact .inr (.inl ⟨k,h2,by rw[A.o,eU h2];exact mY⟩)
   ·exact .inr (.inr ⟨k,h2,by rw[A.o,fT h2];exact jF k⟩)
  ·exact .inl ⟨k,by rw[A.o];exact iG k⟩
 clear A;rcases T with⟨k,I⟩|⟨k,Q,I⟩|⟨k,Q,I⟩
 focus
  have ag:((p.err:Int)==0)=false:=aX.2 (by omega);obtain⟨y,m,F,J,d,g,f⟩:=j.o p w1 H1.o.1 q.o.1 q.o.2.1 I.symm H1.o.2;have D:=hide f;have L:=hide (aQ J (aQ d g));clear f J d g k I j
 rotate_left;focus
  have ag:((p.err:Int)==0)=true:=dI.2 (by omega);have ap:((a:Int) !=(u:Int))=false:=by rw[tY];omega
  obtain⟨y,m,F,J,d,g,f⟩:=j.o p w1 H1.o.1 q.o.1 q.o.2.1 I.symm H1.o.2;have D:=hide f;have L:=hide (aQ J (aQ d g));clear f J d g k I j Q;go_wp2_with fail;apply(C.o _).mono;rintro r w2 ⟨rfl,rfl⟩
 rotate_left;focus
  have ag:((p.err:Int)==0)=true:=dI.2 (by omega);have ap:((a:Int) !=(u:Int))=true:=by rw[jP];omega
  have HF:=hide (iK x base 12 b p w1 H1.o.1);rw[aA k]at HF;have am:=hide I;clear k I Q;go_wp2_with fail;apply(C.o _).mono;rintro r w2 ⟨rfl,rfl⟩;go_wp2_with fail;apply HF.o.mono;rintro r w4 ⟨rfl,h4,P⟩;rw[q.o.1]at P;obtain⟨y,m,F,J,d,g,f⟩:=j.o _ w4 h4 q.o.1 q.o.2.1 am.o.symm (H1.o.2.trans P);have D:=hide f;have L:=hide (aQ J (aQ d g));clear f J d g j h4 P HF
 all_goals
  go_wp2_with fail;apply D.o.mono;rintro r w5 ⟨rfl,h5,aj⟩;obtain⟨_,_,e5,aa,_⟩:=h5.cell;obtain⟨ax,au,H⟩:=h5.vQ;rw[H]at aa;obtain⟨nn,G⟩:=aP m.out.length;rw[<-G]at aa;have aw:nn<=1048576:=by rw[G,L.o.2.2];exact hl
  have t:=hide (aQ h5 aj);have N:=L.o.1;rw[<-L.o.2.2,<-G]at N;have z:=hide N;have an:=hide L.o.2.1;clear h5 aj D L N G H;by_cases k:m.err=0
  ·have af:((m.err:Int)==0)=true:=dI.2 (by omega);by_cases R:y=nn
   ·have aq:((y:Int) !=(nn:Int))=false:=(by rw[tY];omega);have l:=hide (show j6 w5 x base b (uE b s) by rw[z.o,eU R];show j6 w5 x base b (eO false 12 m);rw[mY];exact t.o.1);go_wp2_with fail;go_end0;exact⟨rfl,l.o,t.o.2⟩
   ·have aq:((y:Int) !=(nn:Int))=true:=(by rw[jP];omega);have Y:=hide (iK x base 12 b m w5 t.o.1);rw[aA k]at Y;have al:=hide (show uE b s={ m with err:=12 } by rw[z.o,fT R];exact jF k);clear R k z;go_wp2_with fail;apply Y.o.mono;rintro r w6 ⟨rfl,h6,X⟩;rw[an.o]at X;have l:=hide (show j6 w6 x base b (uE b s)/\dH x w s.v w6 s.v from⟨by rw[al.o];exact h6,t.o.2.trans X⟩);clear h6 X Y al;go_wp2_with fail;go_end0;exact⟨rfl,l.o⟩
  ·have af:((m.err:Int)==0)=false:=aX.2 (by omega);have l:=hide (show j6 w5 x base b (uE b s) by rw[z.o,iG k];exact t.o.1);clear k z;go_wp2_with fail;go_end0;exact⟨rfl,l.o,t.o.2⟩
def Ls:Nat->Nat
 |0=>31
 |1=>139
 |_=>8
def gzM (B:aD)(most:Nat):Nat->Nat->aD->Nat->aD->Prop
 |0=>xA B most
 |1=>gz1 B most
 |2=>gz2 B most
 |_=>jU B most 24
def SF (B:aD)(most i:Nat)(h:i<3):gzM B most i=mO B (Ls i) (8*i) (gzM B most (i+1)):=by
 match i,h with
 |0,_=>rfl
 |1,_=>rfl
 |2,_=>rfl
variable {b:bY} {x base M:Nat} {wA w:aH} {K K':Nat->aD->Prop} {e:Nat} {out:aD} {used:Nat} {name:aD} {s:XS}
def KA (b:bY)(most i:Nat)(e:Nat)(out:aD)(used:Nat)(name:aD)(p:Nat)(nm:aD):Prop:=p=8*i/\nm=[]/\gzM (bytesOf b) most i e out used name
def ak6 (hi:i<3)(p:Nat)(nm:aD)(h:KA b M i e out used name p nm)(a:8*b.size<p+8):qI 3 nm e out used name:=by obtain⟨rfl,rfl,h⟩:=h;rw[SF _ _ _ hi]at h;unfold mO at h;rw[bytesOf_length,aB (by omega)]at h;exact h
def av4 (hi:i<3)(d:c≠Ls i)(p:Nat)(nm:aD)(hp:p<=8*b.size)(h:8<=p/\c=aG (bytesOf b) (p-8) 8/\KA b M i e out used name (p-8) nm):qI 4 nm e out used name:=by obtain⟨g,f,a,rfl,h⟩:=h;rw[SF _ _ _ hi]at h;unfold mO at h;rw[bytesOf_length,aA (by omega),<-a,<-f,aB d]at h;exact h
def aj9 (hi:i<3)(d:c=Ls i)(p:Nat)(nm:aD)(hp:p<=8*b.size)(h:8<=p/\c=aG (bytesOf b) (p-8) 8/\KA b M i e out used name (p-8) nm):KA b M (i+1) e out used name p nm:=by obtain⟨g,f,a,rfl,h⟩:=h;rw[SF _ _ _ hi]at h;unfold mO at h;rw[bytesOf_length,aA (by omega),<-a,<-f,aA d]at h;exact⟨by omega,rfl,h⟩
def Sm (b:bY)(most c:Nat)(e:Nat)(out:aD)(used:Nat)(name:aD)(p:Nat)(nm:aD):Prop:=nm=[]/\qA (bytesOf b) most c p 6 e out used name
def aq3 (p:Nat)(nm:aD)(h:KA b M 3 e out used name p nm)(a:8*b.size<p+8):qI 3 nm e out used name:=by obtain⟨rfl,rfl,h⟩:=h;have h:jU (bytesOf b) M 24 e out used name:=h;unfold jU at h;rw[bytesOf_length,aB (by omega)]at h;exact h
def ax5 (f:¬c<32)(p:Nat)(nm:aD)(hp:p<=8*b.size)(h:8<=p/\c=aG (bytesOf b) (p-8) 8/\KA b M 3 e out used name (p-8) nm):qI 4 nm e out used name:=by obtain⟨g,a,d,rfl,h⟩:=h;have h:jU (bytesOf b) M 24 e out used name:=h;rw[d]at a;unfold jU at h;rw[bytesOf_length,aA (by omega),<-a,aB f]at h;exact h
def ai3 (g:c<32)(p:Nat)(nm:aD)(hp:p<=8*b.size)(h:8<=p/\c=aG (bytesOf b) (p-8) 8/\KA b M 3 e out used name (p-8) nm):Sm b M c e out used name p nm:=by
 obtain⟨j,d,f,rfl,h⟩:=h;have h:jU (bytesOf b) M 24 e out used name:=h;rw[f]at d;unfold jU at h;rw[bytesOf_length,aA (by omega),<-d,aA g]at h;have a:p=24+8:=by omega
 exact⟨rfl,by rw[a];exact h⟩
def ao1 (b:bY)(most c:Nat)(e:Nat)(out:aD)(used:Nat)(name:aD)(p:Nat)(nm:aD):Prop:=nm=[]/\kT (bytesOf b) most c p e out used name
def ap0 (p:Nat)(nm:aD)(h:Sm b M c e out used name p nm)(a:8*b.size<p+48):qI 3 nm e out used name:=by obtain⟨rfl,h⟩:=h;unfold qA at h;rw[bytesOf_length,aB (by omega)]at h;exact h
def ag8 {c2:Nat}(p:Nat)(nm:aD)(hp:p<=8*b.size)(h:48<=p/\c2=aG (bytesOf b) (p-48) 48/\Sm b M c e out used name (p-48) nm):ao1 b M c e out used name p nm:=by obtain⟨a,d,rfl,h⟩:=h;unfold qA at h;rw[bytesOf_length,aA (by omega),show p-48+8*6=p by omega]at h;exact⟨rfl,h⟩
def Nv (b:bY)(most c m:Nat)(e:Nat)(out:aD)(used:Nat)(name:aD)(p:Nat)(nm:aD):Prop:=nm=[]/\if p+8*m<=8*b.size then jW (bytesOf b) most c (p+8*m) [] e out used name else qI 3 [] e out used name
def Ny (b:bY)(most c:Nat)(e:Nat)(out:aD)(used:Nat)(name:aD)(p:Nat)(nm:aD):Prop:=nm=[]/\jW (bytesOf b) most c p [] e out used name
def Wl (a:c/4%2=1)(p:Nat)(nm:aD)(h:ao1 b M c e out used name p nm)(d:8*b.size<p+16):qI 3 nm e out used name:=by obtain⟨rfl,h⟩:=h;unfold kT at h;rw[bytesOf_length,aA a,aB (by omega)]at h;exact h
def Tz (a:c/4%2=1)(p:Nat)(nm:aD)(hp:p<=8*b.size)(h:16<=p/\n=aG (bytesOf b) (p-16) 16/\ao1 b M c e out used name (p-16) nm):Nv b M c n e out used name p nm:=by obtain⟨f,d,rfl,h⟩:=h;unfold kT at h;rw[bytesOf_length,aA a,aA (by omega),<-d,show p-16+16=p by omega]at h;unfold nV at h;rw[bytesOf_length,aA a]at h;exact⟨rfl,h⟩
def am3 {m:Nat}(d:0<m)(p:Nat)(nm:aD)(h:Nv b M c m e out used name p nm)(a:8*b.size<p+8):qI 3 nm e out used name:=by obtain⟨rfl,h⟩:=h;rw[aB (by omega)]at h;exact h
def ai0 {m c2:Nat}(f:0<m)(p:Nat)(nm:aD)(h:8<=p/\c2=aG (bytesOf b) (p-8) 8/\Nv b M c m e out used name (p-8) nm):Nv b M c (m-1) e out used name p nm:=by obtain⟨a,d,rfl,h⟩:=h;rw[show p-8+8*m=p+8*(m-1) by omega]at h;exact⟨rfl,h⟩
def ay4 (p:Nat)(nm:aD)(hp:p<=8*b.size)(h:Nv b M c 0 e out used name p nm):Ny b M c e out used name p nm:=by obtain⟨rfl,h⟩:=h;rw[aA (by omega)]at h;exact⟨rfl,h⟩
def aB1 (a:¬c/4%2=1)(p:Nat)(nm:aD)(h:ao1 b M c e out used name p nm):Ny b M c e out used name p nm:=by obtain⟨rfl,h⟩:=h;unfold kT at h;rw[aB a]at h;exact⟨rfl,h⟩
def D8 {B:aD}{p:Nat}{l m:aD}{ok a:Bool}{q q':Nat}(h:lI B p l ok q)(g:lI B p m a q'):l=m/\ok=a/\q=q':=by
 induction h generalizing m a q' with
 |miss p h=>
  rcases g with⟨_,k⟩|⟨_,k,d⟩|⟨_,o,_,_,k,d,f⟩
  ·exact⟨rfl,rfl,rfl⟩
  ·omega
  ·omega
 |zero p h j=>
  rcases g with⟨_,k⟩|⟨_,k,d⟩|⟨_,o,_,_,k,d,f⟩
  ·omega
  ·exact⟨rfl,rfl,rfl⟩
  ·exact absurd j d
 |more p l ok q h j r ih=>
  rcases g with⟨_,k⟩|⟨_,k,d⟩|⟨_,o,_,_,k,d,f⟩
  ·omega
  ·exact absurd d j
  ·obtain⟨rfl,rfl,rfl⟩:=ih f;exact⟨rfl,rfl,rfl⟩
def RI (b:bY)(most c:Nat)(e:Nat)(out:aD)(used:Nat)(name:aD)(p:Nat)(nm:aD):Prop:=gX (bytesOf b) most c p nm e out used name
def aq7 (f:c/8%2=1)(p:Nat)(nm l:aD)(q:Nat)(h:Ny b M c e out used name p nm)(g:lI (bytesOf b) p l false q):qI 3 nm e out used name:=by obtain⟨rfl,h⟩:=h;unfold jW at h;rw[aA f]at h;obtain⟨j,d,q',a,h⟩:=h;obtain⟨rfl,rfl,rfl⟩:=D8 g a;rw[aB (by simp)]at h;exact h
def an4 (f:c/8%2=1)(l:aD)(p:Nat)(nm:aD)(h:∃p0,Ny b M c e out used name p0 nm/\lI (bytesOf b) p0 l true p):RI b M c e out used name p (gY l):=by obtain⟨p0,⟨rfl,h⟩,g⟩:=h;unfold jW at h;rw[aA f]at h;obtain⟨j,d,q',a,h⟩:=h;obtain⟨rfl,rfl,rfl⟩:=D8 g a;rw[aA rfl,iO]at h;exact h
def aB6 (a:¬c/8%2=1)(p:Nat)(nm:aD)(h:Ny b M c e out used name p nm):RI b M c e out used name p nm:=by obtain⟨rfl,h⟩:=h;unfold jW at h;rw[aB a]at h;exact h
def O1 (b:bY)(most c:Nat)(e:Nat)(out:aD)(used:Nat)(name:aD)(p:Nat)(nm:aD):Prop:=jG (bytesOf b) most c p nm e out used name
def aj4 (f:c/16%2=1)(p:Nat)(nm l:aD)(q:Nat)(h:RI b M c e out used name p nm)(g:lI (bytesOf b) p l false q):qI 3 nm e out used name:=by unfold RI gX at h;rw[aA f]at h;obtain⟨j,d,q',a,h⟩:=h;obtain⟨rfl,rfl,rfl⟩:=D8 g a;rw[aB (by simp)]at h;exact h
def ao9 (f:c/16%2=1)(l:aD)(p:Nat)(nm:aD)(h:∃p0,RI b M c e out used name p0 nm/\lI (bytesOf b) p0 l true p):O1 b M c e out used name p nm:=by obtain⟨p0,h,g⟩:=h;unfold RI gX at h;rw[aA f]at h;obtain⟨j,d,q',a,h⟩:=h;obtain⟨rfl,rfl,rfl⟩:=D8 g a;rw[aA rfl]at h;exact h
def az2 (a:¬c/16%2=1)(p:Nat)(nm:aD)(h:RI b M c e out used name p nm):O1 b M c e out used name p nm:=by unfold RI gX at h;rw[aB a]at h;exact h
def Jw (b:bY)(most:Nat)(e:Nat)(out:aD)(used:Nat)(name:aD)(p:Nat)(nm:aD):Prop:=rY (bytesOf b) most p nm e out used name
def aq5 (a:c/2%2=1)(p:Nat)(nm:aD)(h:O1 b M c e out used name p nm)(d:8*b.size<p+16):qI 3 nm e out used name:=by unfold O1 jG at h;rw[bytesOf_length,aA a,aB (by omega)]at h;exact h
def av0 {u p0:Nat}(f:c/2%2=1)(d:u=aL 0 ((bytesOf b).take (p0/8)))(hn:n≠u%65536)(p:Nat)(nm:aD)(hp:p<=8*b.size)(h:16<=p/\n=aG (bytesOf b) (p-16) 16/\p-16=p0/\O1 b M c e out used name (p-16) nm):qI 12 nm e out used name:=by obtain⟨j,g,a,h⟩:=h;unfold O1 jG at h;rw[bytesOf_length,aA f,aA (by omega),<-g,a,<-d,aB hn]at h;exact h
def aq0 {u p0:Nat}(f:c/2%2=1)(d:u=aL 0 ((bytesOf b).take (p0/8)))(hn:n=u%65536)(p:Nat)(nm:aD)(hp:p<=8*b.size)(h:16<=p/\n=aG (bytesOf b) (p-16) 16/\p-16=p0/\O1 b M c e out used name (p-16) nm):Jw b M e out used name p nm:=by obtain⟨j,g,a,h⟩:=h;unfold O1 jG at h;rw[bytesOf_length,aA f,aA (by omega),<-g,a,<-d,aA hn,show p0+16=p by omega]at h;exact h
def aB3 (a:¬c/2%2=1)(p:Nat)(nm:aD)(h:O1 b M c e out used name p nm):Jw b M e out used name p nm:=by unfold O1 jG at h;rw[aB a]at h;exact h
end Go.Proofs.YtbpahojchgpdnaaGreatDoor
