import Derived.Test.YtbpahojchgpdnaaGreatDoorGStretch
import Derived.Test.YtbpahojchgpdnaaGreatDoorGHead
set_option maxRecDepth 20000
set_option maxHeartbeats 4000000
set_option linter.all false
namespace Go.Proofs.YtbpahojchgpdnaaGreatDoor
open Go.RowKit Go.dM Go.Maps Go.Proofs.Tryz
variable {w w':aH} {b1 base cap d f g off p q z:Nat} {v:aK} {B:aD} {A:Array aK}
def aA8 (r:G)(d f base g off cap z:Nat)(B:aD)(s:GS)(st:iH)(w:aH)(e:Ending)(w':aH):Prop:=
 match r with
 | .go s'=>e= .returned (V 0)/\∃v' xs,s'={ s with out:=s.out++xs,p:=s'.p }/\(s.out++xs).length<=s.most/\s'.p<=8*B.length/\mF w' d f base g off cap z B (st.add v' xs) s'.p/\fC d f w st.v w' v'
 | .no x out=>e= .returned (V (x:Nat))/\x≠0/\∃st' q,sG st' s.taken out/\mF w' d f base g off cap z B st' q/\fC d f w st.v w' st'.v
 | .miss=>e=lost/\∃q,mF w' d f base g off cap z B st q/\fC d f w st.v w' st.v
def Wm.aD2 {x:aK}{D:d9}(h:Wm w d f v x D)(hs:fC d f w v w' v):al6 w' x D f:=by
 rcases h with h|⟨mb,b,c,a⟩
 ·exact .inl h
 ·exact .inr ⟨mb,b,a.f,c.step hs.step a.not⟩
def QI {c n q':Nat}(h:eF B q c= .ok n q')(e:257<=c):3<=n/\n<=258:=by
 unfold eF at h;split at h
 ·simp at h
 ·split at h
  ·simp only[R.ok.injEq]at h;obtain⟨rfl,_⟩:=h;omega
  ·split at h
   ·simp only[R.ok.injEq]at h;obtain⟨rfl,_⟩:=h;omega
   ·split at h
    ·simp only[R.ok.injEq]at h;obtain⟨rfl,_⟩:=h;have b:c<=284:=(by omega);have a:(c-261)/4=1\/(c-261)/4=2\/(c-261)/4=3\/(c-261)/4=4\/(c-261)/4=5:=(by omega);have i:(c-265)%4<4:=wK _ (by omega);have hn:=bO B q ((c-261)/4);rcases a with a|a|a|a|a<;>rw[a]at hn|-<;>omega
    ·simp at h
def F7 {c e:Nat}(h:eF B q c= .no e):e=9:=by
 unfold eF at h;split at h
 ·simp only[R.no.injEq]at h;exact h.symm
 ·split at h
  ·simp at h
  ·split at h
   ·simp at h
   ·split at h<;>simp at h
def SG {D:d9}{e:Nat}(h:iQ D B q= .no e):e=9:=by
 unfold iQ at h;split at h
 ·rename_i a hs;simp only[R.no.injEq]at h;subst h;exact oU hs
 ·simp at h
 ·split at h
  ·simp only[R.no.injEq]at h;exact h.symm
  ·split at h
   ·simp at h
   ·split at h<;>simp at h
def Dw {D:d9}{n q':Nat}(h:iQ D B q= .ok n q'):1<=n/\n<=32768:=by
 unfold iQ at h;split at h
 ·simp at h
 ·simp at h
 ·rename_i s b hs;split at h
  ·simp at h
  ·split at h
   ·simp only[R.ok.injEq]at h;obtain⟨rfl,_⟩:=h;omega
   ·split at h
    ·simp only[R.ok.injEq]at h;obtain⟨rfl,_⟩:=h;have hn:=bO B b (s/2-1);have e:s%2<2:=wK _ (by omega);have a:s/2-1<=13:=(by omega);have hp:2^(s/2-1)<=2^13:=gL (by omega) a;have c:(2+s%2)*2^(s/2-1)<=3*2^(s/2-1):=mZ _ (by omega);omega
    ·simp at h
def YF (out:aD)(a len:Nat)(b:a<=out.length):copied out a len=round (out.drop (out.length-a)) len:=by
 unfold copied round;have e:(out.drop (out.length-a)).length=a:=by rw[dX];omega
 rw[e];apply IY;intro i _;rw[kM]
def kX (out:aD)(a len:Nat):(copied out a len).length=len:=by simp[copied]
def YV (d f base g off cap z q c:Nat)(B:aD)(s:GS)(st:iH)(w:aH)(S:mF w d f base g off cap z B st q)(hq:q<=8*B.length)(hc:257<=c)(au:c<100000)(e1:sG st s.taken s.out)(e2:st.room+s.out.length=s.most)(hm:s.most<=1048576)(hr:s.out.length<=s.most)(ht:WB w d f st.v st s.ls s.ld):Calls prog 192 #[E d,V c] w fun e w'=>aA8 (gCopy B s c q) d f base g off cap z B s st w e w':=by
 obtain⟨c0,_⟩:=S.dec.cell;obtain⟨res,j⟩:=aP (gCopy B s c q);rw[<-j];unfold gCopy at j;have D:=e1.small e2 hm;have I:=UL f g off cap z q c B w S.feed S.src S.af9.f hq hc au;go_enter func192,ntmps192;go_wp2_with fail;cases hL:eF B q c with
 |no x=>
  have hx:=F7 hL;subst hx;rw[hL]at I j;have k:=hide j;apply I.mono;rintro e w1 ⟨rfl,q1,N⟩;have H1:=hide (S.fed N);have H2:=hide (fC.fed (d:=d) (v:=st.v) N);go_wp2_with fail;go_ret;rw[k.o];exact⟨rfl,by omega,st,_,e1,H1.o,H2.o⟩
 |miss=>
  rw[hL]at I j;have k:=hide j;apply I.mono;rintro e w1 ⟨rfl,q1,N⟩;have H1:=hide (S.fed N);have H2:=hide (fC.fed (d:=d) (v:=st.v) N);go_wp2_with fail;rw[k.o];exact⟨rfl,rfl,_,H1.o,H2.o⟩
 |ok n q1=>
  have hn:=QI hL hc;have aw:=(FM hL hq).2;rw[hL]at I j;apply I.mono;rintro e w1 ⟨rfl,N⟩;have l:=S.fed N;have ae:fC d f w st.v w1 st.v:=fC.fed N;obtain⟨x,bb,bc⟩:=ht.dm;have av:=ht.dl;obtain⟨k0,_,_,_,_,_,_,_,k8,k9,_⟩:=l.dec.cell;rw[bb]at k8;rw[av]at k9;have F:=L8 f g off cap z q1 x (aI s.ld) B w1.drew l.feed (l.src.step ((aU (fun _=>False) w1).drew) (fun x=>x)) l.af9.f (bc.aD2 (ae.trans (fC.step0 ((aU (fun _=>False) w1).drew)))) (pY _) aw (YS ht.dn);have k:=hide j;go_wp2_with fail;cases hD:iQ (aI s.ld) B q1 with
  |no y=>
   have hy:=SG hD;subst hy;have F:=F;have j:=k.o;rw[hD]at F j;have k:=hide j
   go_region_held3 (fun w'=>w'.cell? (U d 0)=some (E f)/\w'.cell? (U d 9)=some (.map x)/\w'.cell? (U d 10)=some (V ((aI s.ld).longest:Nat))) (go_keep)
    (first|(go_at_call 202;apply F.mono;rintro e w2 ⟨rfl,q2,t⟩;have j0:=t.step.cell (p:=(U d 0)) k0 l.dec.ne;have j8:=t.step.cell (p:=(U d 9)) k8 l.dec.ne;have j9:=t.step.cell (p:=(U d 10)) k9 l.dec.ne))
   have H1:=hide ((l.step0 ((aU (fun _=>False) w1).drew)).fed t);have H2:=hide (ae.trans ((fC.step0 ((aU (fun _=>False) w1).drew)).trans (fC.fed (d:=d) (v:=st.v) t)));go_wp2_with fail;go_ret;rw[k.o];exact⟨rfl,by omega,st,_,e1,H1.o,H2.o⟩
  |miss=>
   have F:=F;have j:=k.o;rw[hD]at F j;have k:=hide j;go_region_dies;all_goals
    apply F.mono;rintro e w2 ⟨rfl,q2,t⟩;refine⟨rfl,?_⟩;rw[k.o];exact⟨rfl,_,(l.step0 ((aU (fun _=>False) w1).drew)).fed t,ae.trans ((fC.step0 ((aU (fun _=>False) w1).drew)).trans (fC.fed (d:=d) (v:=st.v) t))⟩
  |ok b q2=>
   have bh:=Dw hD;have ax:=(RJ hD).2;have F:=F;have j:=k.o;rw[hD]at F j;replace j:res=if s.out.length<b then G.no 10 s.out else mM s (copied s.out b n) q2:=j
   have k:=hide j
   go_region_held3 (fun w'=>w'.cell? (U d 0)=some (E f)/\w'.cell? (U d 9)=some (.map x)/\w'.cell? (U d 10)=some (V ((aI s.ld).longest:Nat))) (go_keep)
    (first|(go_at_call 202;apply F.mono;rintro e w2 ⟨rfl,t⟩;have j0:=t.step.cell (p:=(U d 0)) k0 l.dec.ne;have j8:=t.step.cell (p:=(U d 9)) k8 l.dec.ne;have j9:=t.step.cell (p:=(U d 10)) k9 l.dec.ne))
   have C:=(l.step0 ((aU (fun _=>False) w1).drew)).fed t;have af:=ae.trans ((fC.step0 ((aU (fun _=>False) w1).drew)).trans (fC.fed (d:=d) (v:=st.v) t));obtain⟨m0,_⟩:=C.dec.cell;go_wp2_with fail;apply(FI d f base st w2 C.dec D.out).mono;rintro e w3 ⟨rfl,a,rfl,X⟩;obtain⟨J,ag⟩:=aP st.out.length;rw[<-ag]at X|-
   obtain⟨old,hold,ah⟩:=e1.old;have al:s.out.length=old.length+J:=(by rw[hold,aN,ag]);have ap:s.out.length<b↔J<b:=by
    rcases ah with ah|ah
    ·rw[ah,pE]at al;omega
    ·omega
   have be:J<=1048576:=(by have:=D.out;omega);have aj:s.out.drop (s.out.length-b)=st.out.drop (J-b)\/J<b:=by
    by_cases hx:J<b
    ·exact .inr hx
    ·refine .inl ?_;rw[al,show old.length+J-b=old.length+(J-b) by omega,hold,GK];simp
   have an:=hide ag;by_cases ab:J<b
   ·have j:=k.o;rw[aA (ap.2 ab)]at j;have k:=hide j;have aq:min J 32768=J:=(by omega);rw[aq]at X|-
    go_wp2_with fail;go_ret;rw[k.o];exact⟨rfl,by omega,st,_,e1,C,af⟩
   ·have j:=k.o;rw[aB (fun hx=>ab (ap.1 hx))]at j;obtain⟨wb,ha,ak⟩:=X (by omega);subst ha;have k:=hide j;clear j X;obtain⟨Z,ar⟩:=aP (min J 32768);rw[<-ar];have bl:b<=Z:=(by omega);have bm:Z<=J:=(by omega);have bn:Z<=32768:=(by omega);have bg:1<=Z:=(by omega);obtain⟨u,hu⟩:∃u,Z=u+b:=⟨Z-b,by omega⟩
    have az:IntKind.i64.wrap ((Z:Int)-(b:Int))=(u:Int):=(by rw[dK];omega);have bj:(0:Int)<=(u:Int):=(by omega);have bk:(u:Int)<=(Z:Int):=(by omega);have bf:¬(Z=u):=(by omega);have ba:Z-u=b:=(by omega);have R:(st.out.drop (J-b)).length=b:=(by rw[dX,<-an.o];omega);have W:nI w3.drew wb (J-Z+u) (st.out.drop (J-b)):=fun i hi=>by
     rw[R]at hi;have h9:=ak (J-b+i) (by rw[<-an.o];omega);rw[dS]at h9;have e9:J-Z+u+i=J-b+i:=(by omega);rw[e9,kM];exact h9
    have I:=hn;have P:=VR wb (J-Z+u) b n (st.out.drop (J-b)) w3.drew W R (by omega) (by omega) (by omega) (by omega);have ao:round (st.out.drop (J-b)) n=copied s.out b n:=by
     have h9:=YF s.out b n (by rw[al];omega);rw[h9];rcases aj with hx|hx
     ·rw[hx]
     ·exact absurd hx ab
    rw[ao]at P;have HU:=hide hu;clear ar ag W R ao hu;have Y:=kX s.out b n;obtain⟨xs,am⟩:=aP (copied s.out b n);rw[<-am]at Y;have j:=k.o;rw[<-am]at j P;unfold mM at j;clear am;by_cases ad:s.out.length+xs.length<=s.most
    ·rw[aA ad]at j;have T:=hide j;clear j k;rw[Y]at ad;have ai:n<=st.room:=(by have:=e2;omega);go_wp2_with fail
     go_region_held3 (fun _=>True) (exact bT)
      (first|(go_at_call 203;apply P.mono;rintro e w4 ⟨k',Q,M,rfl,H,m,K⟩)|(go_at_call 190;apply(Em d f base M k' Q n xs st w4 (C.step0 ((aU (fun _=>False) w3).drew.trans K)).dec m Y (by omega) (by omega) H ai D).mono;rintro e w5 ⟨rfl,v',h5,L⟩))
     have r:O w3 w4:=(aU (fun _=>False) w3).drew.trans K;have H5:=hide (((C.step0 r)).put h5 L);have aa:=hide ((af.trans (fC.step0 r)).trans (fC.xH L));clear h5 L r K m;go_wp2_with fail;go_ret;rw[T.o];refine⟨rfl,v',xs,rfl,?_,ax,H5.o,aa.o⟩;rw[aN,Y];exact ad
    ·rw[aB ad]at j;have T:=hide j;clear j k;rw[Y]at ad;have ai:s.most-s.out.length=st.room:=(by have:=e2;omega);have ay:st.room<n:=(by have:=e2;omega);by_cases ac:st.room=0
     ·go_wp2_with fail;go_region_held3 (fun _=>True) (exact bT)
      (first|(go_at_call 203;apply P.mono;rintro e w4 ⟨k',Q,M,rfl,H,m,K⟩)|(go_at_call 190;apply(Gy d f base M k' Q n st w4 (C.step0 ((aU (fun _=>False) w3).drew.trans K)).dec (by omega) (by omega) H ac D).mono;rintro e w5 ⟨rfl,h5,L⟩))
      have r:O w3 w4:=(aU (fun _=>False) w3).drew.trans K;have H5:=hide (((C.step0 r)).put h5 L);have aa:=hide ((af.trans (fC.step0 r)).trans (fC.xH L));clear h5 L r K m;go_wp2_with fail;go_ret;rw[T.o];refine⟨rfl,by omega,st,q2,?_,H5.o,aa.o⟩;rw[ai,ac,uS,bG];exact e1
     ·go_wp2_with fail;go_region_held3 (fun _=>True) (exact bT)
      (first|(go_at_call 203;apply P.mono;rintro e w4 ⟨k',Q,M,rfl,H,m,K⟩)|(go_at_call 190;apply(Ye d f base M k' Q n xs st w4 (C.step0 ((aU (fun _=>False) w3).drew.trans K)).dec m Y (by omega) H (by omega) ay D).mono;rintro e w5 ⟨rfl,v',h5,L⟩))
      have r:O w3 w4:=(aU (fun _=>False) w3).drew.trans K;have H5:=hide (((C.step0 r)).put h5 L);have aa:=hide ((af.trans (fC.step0 r)).trans (fC.xH L));go_wp2_with fail;go_ret;rw[T.o,ai];exact⟨rfl,by omega,st.add v' (xs.take st.room),q2,e1.add v' _,H5.o,aa.o⟩
def Nz (d f base g off cap z:Nat)(B:aD)(s:GS)(v:aK)(w:aH)(r:dJ w d f base g off cap z B s v)(X:s.place=2):Calls prog 174 #[E d] w fun e w'=>I8 (uF B s) d f base g off cap z B s w v e w':=by
 obtain⟨st,rfl,k,t,F,e3,G,H,I,J,K,W⟩:=r.ex;have n:=W X;obtain⟨mb,m1,m2,P⟩:=n.sm;have aa:=k.src.much;have m:=t.small F r.most;have j:=r.bits;have D:=r.room;unfold uF;cases hr:lC (aI s.ls) B s.p with
 |no x=>
  have S:=oU hr;subst S;apply(Uc d f base g off cap z s.p mb (aI s.ls) B st w k m1 n.sl m2 P.f (pY _) j hr).mono;rintro e w' ⟨rfl,q,i,a⟩;exact⟨rfl,by omega,st,q,t,i,a⟩
 |miss=>
  apply(El d f base g off cap z s.p mb (aI s.ls) B st w k m1 n.sl m2 P.f (pY _) j hr).mono;rintro e w' ⟨rfl,q,i,a⟩;exact⟨rfl,s.last,q,fun _=>rfl,⟨st,rfl,i,t,F,e3,G,H,I,J,K.step a,fun _=>n.step a rfl rfl rfl rfl⟩,a⟩
 |ok c q=>
  have b:=Wd hr;have R:q<=8*B.length:=b.there;have Z:=b.lt;have u:=b.aB7 (w:=w) (f:=f) (mb:=mb) m2 P.f (pY _);rw[<-n.sl]at u;have L:=YS n.sn _ _ b.is;dsimp only;by_cases l:c<256
  ·rw[aA l];unfold mM;by_cases C:s.out.length+[c].length<=s.most
   ·rw[aA C];simp only[oH]at C;apply(Bw d f base g off cap z s.p (q-s.p) mb c (aI s.ls).tab B st w k m1 u (by omega) m (by omega) l).mono;rintro e w' ⟨rfl,N,i,a⟩;rw[show s.p+(q-s.p)=q by omega]at i;exact⟨rfl,N,r.after i a rfl (t.add N _) (by simp only[iH.add,aN,oH];omega) e3 G H I J (K.step a) (fun _=>n.step a rfl rfl rfl rfl) rfl (by simp;omega) r.left R,a⟩
   ·rw[aB C];simp only[oH]at C;apply(Ei d f base g off cap z s.p (q-s.p) mb c (aI s.ls).tab B st w k m1 u (by omega) m (by omega) l).mono;rintro e w' ⟨rfl,i,a⟩;refine⟨rfl,by omega,st,_,?_,i,a⟩;have:s.most-s.out.length=0:=(by omega);rw[this,uS,bG];exact t
  ·rw[aB l];by_cases Q:c=256
   ·rw[aA Q];apply(Oe d f base g off cap z s.p (q-s.p) mb c (aI s.ls).tab B st w k m1 u (by omega) Q).mono;rintro e w' ⟨rfl,i,a⟩;rw[show s.p+(q-s.p)=q by omega]at i;exact⟨rfl,st.v,M5 r rfl i a R t F G H I J K,a⟩
   ·rw[aB Q];refine Fg d f base g off cap z s.p mb c q (aI s.ls) B st w _ k m1 n.sl m2 P.f (pY _) j hr (by omega) L ?_;intro w1 M y;apply(YV d f base g off cap z q c B s st w1 M R (by omega) L t F r.most D (n.step y rfl rfl rfl rfl)).mono;intro e w' hp;cases hg:gCopy B s c q with
    |go s'=>
     rw[hg]at hp;obtain⟨rfl,N,xs,hs,T,Y,i,a⟩:=hp;have o:=y.trans a;refine⟨.inl ⟨0,rfl⟩,rfl,N,?_,o⟩;rw[hs];exact r.after i o rfl (t.add N xs) (by rw[aN]at T |-;simp only[iH.add];omega) e3 G H I J (K.step o) (fun _=>n.step o rfl rfl rfl rfl) rfl T r.left Y
    |no x out=>
     rw[hg]at hp;obtain⟨rfl,S,st',q',i,a,o⟩:=hp;exact⟨.inl ⟨x,rfl⟩,rfl,S,st',q',i,a,y.trans o⟩
    |miss=>
     rw[hg]at hp;obtain⟨rfl,q',i,a⟩:=hp;have o:=y.trans a;exact⟨.inr rfl,rfl,s.last,q',fun _=>rfl,⟨st,rfl,i,t,F,e3,G,H,I,J,K.step o,fun _=>n.step o rfl rfl rfl rfl⟩,o⟩
def Ends (e:Ending):Prop:=(∃x:Nat,e= .returned (V (x:Nat)))\/e=lost
def Ml (d f base g off cap z p:Nat)(B:aD)(st:iH)(w:aH)(h:mF w d f base g off cap z B st p)(hp:p<=8*B.length)(i:8*B.length<p+1):Calls prog 175 #[E d] w fun e w'=>e=lost/\∃q,mF w' d f base g off cap z B st q/\fC d f w st.v w' st.v:=by obtain⟨j,_⟩:=h.dec.cell;have a:=h.src.much;go_enter func175,ntmps175;go_wp2_with fail;apply(yN f B.length cap p _ w h.feed a (by omega) (by omega)).mono;rintro e w1 ⟨rfl,m,rfl⟩;have hs:O w (w.drewN m):=(aU _ _).drewN m;have b:=hide (h.step0 hs);have c:=hide (fC.step0 (d:=d) (f:=f) (v:=st.v) hs);go_wp2_with fail;exact⟨rfl,rfl,_,b.o,c.o⟩
def Jr (d f base g off cap z p:Nat)(B:aD)(st:iH)(w:aH)(h:mF w d f base g off cap z B st p)(hp:p<8*B.length)(r:8*B.length<p+3):Calls prog 175 #[E d] w fun e w'=>e=lost/\∃q l,mF w' d f base g off cap z B { st with last:=l } q/\fC d f w st.v w' st.v:=by obtain⟨t,_⟩:=h.dec.cell;go_enter func175,ntmps175;go_wp2_with fail;apply(sW f g off cap z p B w h.feed h.src (by omega)).mono;rintro e w1 ⟨rfl,a⟩;have j:=h.fed a;obtain⟨_,_,_,_,u,_⟩:=j.dec.cell;have s:=j.dec.free 5;go_wp2_with fail;obtain⟨last,n⟩:=aP (((bK B p:Int)==1));rw[<-n];have c:mF (w1.setCell (U d 5) (.bool last)) d f base g off cap z B { st with last:=last } (p+1):=X6 j;have k:fC d f w st.v (w1.setCell (U d 5) (.bool last)) st.v:=(fC.fed a).trans (fC.setCell d f w1 st.v 5 _);generalize w1.setCell (U d 5) (.bool last)=w2 at*;apply(dL f g off cap z (p+1) 2 B w2 c.feed c.src c.af9.f (by omega) (by omega) (by omega)).mono;rintro e w3 ⟨rfl,b⟩;have m:=hide (c.fed b);have i:=hide (k.trans (fC.fed b));go_wp2_with fail;exact⟨rfl,rfl,_,_,m.o,i.o⟩
def ap9 (d f base g off cap z p:Nat)(B:aD)(st:iH)(w:aH)(h:mF w d f base g off cap z B st p)(R:p+3<=8*B.length)(Q:Ending->aH->Prop)(L:aG B (p+1) 2=0->∀w3,mF w3 d f base g off cap z B { st with last:=bK B p==1 } (p+1+2)->fC d f w st.v w3 st.v->Calls prog 193 #[E d] w3 fun e w'=>Ends e/\Q e w')(c:aG B (p+1) 2=1->∀w3,mF w3 d f base g off cap z B { st with last:=bK B p==1 } (p+1+2)->fC d f w st.v w3 st.v->Calls prog 194 #[E d] w3 fun e w'=>Ends e/\Q e w')(b:aG B (p+1) 2=2->∀w3,mF w3 d f base g off cap z B { st with last:=bK B p==1 } (p+1+2)->fC d f w st.v w3 st.v->Calls prog 195 #[E d] w3 fun e w'=>Ends e/\Q e w')(t:aG B (p+1) 2=3->∀w3,mF w3 d f base g off cap z B { st with last:=bK B p==1 } (p+1+2)->fC d f w st.v w3 st.v->Q (.returned (V 5)) w3):Calls prog 175 #[E d] w fun e w'=>Q e w':=by
 have m:=hide L;have n:=hide c;have r:=hide b;have s:=hide t;clear L c b t;obtain⟨T,_⟩:=h.dec.cell;have J:=hide h;clear h;go_enter func175,ntmps175;go_wp2_with fail;apply(sW f g off cap z p B w J.o.feed J.o.src (by omega)).mono;rintro e w1 ⟨rfl,i⟩;have c:=J.o.fed i;obtain⟨_,_,_,_,W,_⟩:=c.dec.cell;have S:=c.dec.free 5;have I:=hide i;have N:=hide c;clear c i;have u:((bK B p:Int)==1)=(bK B p==1):=by
  have:=kQ B p;have G:bK B p=0\/bK B p=1:=by omega
  rcases G with G|G<;>rw[G]<;>rfl
 obtain⟨last,M⟩:=aP (bK B p==1);rw[<-M]at u m n r s;clear M;go_wp2_with fail;have b:mF (w1.setCell (U d 5) (.bool last)) d f base g off cap z B { st with last:=last } (p+1):=X6 N.o;have y:fC d f w st.v (w1.setCell (U d 5) (.bool last)) st.v:=(fC.fed I.o).trans (fC.setCell d f w1 st.v 5 _);generalize w1.setCell (U d 5) (.bool last)=w2 at*;apply(dO f g off cap z (p+1) 2 B w2 b.feed b.src b.af9.f (by omega) (by omega)).mono;rintro e w3 ⟨rfl,j⟩;have t:=b.fed j;have C:=y.trans (fC.fed j);have a:=hide (show mF w3 d f base g off cap z B { st with last:=last } (p+1+2)/\fC d f w st.v w3 st.v from⟨t,C⟩);obtain⟨D,k⟩:=aP (aG B (p+1) 2);have P:D<4:=by rw[k];exact bO B (p+1) 2
 rw[<-k]at m n r s|-
 clear b y t C j u k;have K:D=0\/D=1\/D=2\/D=3:=by omega
 rcases K with rfl|rfl|rfl|rfl;focus
  have H:=hide (m.o rfl w3 a.o.1 a.o.2)
 rotate_left;focus
  have H:=hide (n.o rfl w3 a.o.1 a.o.2)
 rotate_left;focus
  have H:=hide (r.o rfl w3 a.o.1 a.o.2)
 rotate_left
 ·have l:=hide (s.o rfl w3 a.o.1 a.o.2);clear m n r s a;go_wp2_with fail;exact l.o
 all_goals
  clear m n r s a;go_wp2_with fail;apply H.o.mono;rintro e w4 ⟨⟨x,rfl⟩|rfl,F⟩
  ·have l:=hide F;clear F;go_wp2_with fail;exact l.o
  ·have l:=hide F;clear F;go_wp2_with fail;exact⟨rfl,l.o⟩
def Vu (D:d9)(B:aD)(n:Nat):∀k p row r q,row.length<=n->iC D B n k p row= .ok r q->r.length<=n:=by
 intro k;induction k with
 |zero=>intro p row r q a h;simp only[iC,R.ok.injEq]at h;obtain⟨rfl,_⟩:=h;exact a
 |succ k ih=>
  intro p row r q a h;rw[iC]at h;split at h
  ·simp only[R.ok.injEq]at h;obtain⟨rfl,_⟩:=h;exact a
  ·split at h
   ·simp at h
   ·simp at h
   ·split at h
    ·simp at h
    ·split at h
     ·simp at h
     ·simp at h
     ·split at h
      ·simp at h
      ·exact ih _ _ _ _ (by rw[aN,dQ];omega) h
def Gf {a:aD×aD}(h:bW B p= .ok a q):a.1.length<=1000/\a.2.length<=1000:=by
 unfold bW at h;split at h
 ·dsimp only at h;split at h
  ·simp at h
  ·split at h
   ·split at h
    ·split at h
     ·rename_i row e b;have c:=Vu _ _ _ _ _ _ _ _ (by simp) b;unfold pI at h;split at h
      ·simp only[R.ok.injEq]at h;obtain⟨rfl,_⟩:=h;simp only[dF,dX];omega
      ·simp at h
     ·simp at h
     ·simp at h
    ·simp at h
   ·simp at h
 ·simp at h
def aa2 (d f base g off cap z:Nat)(B:aD)(s:GS)(v:aK)(w:aH)(k:dJ w d f base g off cap z B s v)(W:s.place≠1)(o:s.place≠2):Calls prog 175 #[E d] w fun e w'=>I8 (kL B s) d f base g off cap z B s w v e w':=by
 obtain⟨st,rfl,D,n,r,e3,S,G,t,u,y,Z⟩:=k.ex;have C:=k.bits;unfold kL;by_cases N:s.p+3<=8*B.length;case neg=>
  rw[aB N];by_cases h1:s.p+1<=8*B.length
  ·apply(Jr d f base g off cap z s.p B st w D (by omega) (by omega)).mono;rintro e w' ⟨rfl,q,l,j,c⟩;exact⟨rfl,l,q,fun h=>by omega,⟨{ st with last:=l },rfl,j,n.same rfl rfl,r,e3,rfl,G,t,u,y.step c,fun h=>absurd h o⟩,c⟩
  ·apply(Ml d f base g off cap z s.p B st w D C (by omega)).mono;rintro e w' ⟨rfl,q,j,c⟩;exact⟨rfl,s.last,q,fun h=>by omega,⟨_,rfl,j,n,r,e3,S,G,t,u,y.step c,fun h=>absurd h o⟩,c⟩
 rw[aA N];refine ap9 d f base g off cap z s.p B st w D N _ ?_ ?_ ?_ ?_
 ·intro hk w3 j a;rw[aA hk];by_cases m:(s.p+3+7)/8*8+32<=8*B.length
  ·rw[aA m];have Q:=bO B ((s.p+3+7)/8*8) 16;by_cases I:aG B ((s.p+3+7)/8*8+16) 16=65535-aG B ((s.p+3+7)/8*8) 16
   ·rw[aA I];apply(VW d f base g off cap z (s.p+1+2) ((s.p+3+7)/8*8) _ B _ w3 j rfl m rfl I (by omega)).mono;rintro e w' ⟨rfl,c,b⟩;have i:=a.trans b;exact⟨.inl ⟨0,rfl⟩,rfl,st.v,k.after c i rfl (n.same rfl rfl) r rfl rfl rfl t u (y.step i) (fun h=>by simp at h) rfl k.room (by dsimp only;omega) m,i⟩
   ·rw[aB I];apply(VI d f base g off cap z (s.p+1+2) ((s.p+3+7)/8*8) _ _ B _ w3 j rfl m rfl rfl I (by omega)).mono;rintro e w' ⟨rfl,q,c,b⟩;exact⟨.inl ⟨6,rfl⟩,rfl,by omega,{ st with last:=bK B s.p==1 },q,n.same rfl rfl,c,a.trans b⟩
  ·rw[aB m];apply(NJ d f base g off cap z (s.p+1+2) ((s.p+3+7)/8*8) B _ w3 j rfl (by omega) (by omega)).mono;rintro e w' ⟨rfl,q,c,b⟩;have i:=a.trans b;exact⟨.inr rfl,rfl,(bK B s.p==1),q,fun h=>by omega,⟨{ st with last:=bK B s.p==1 },rfl,c,n.same rfl rfl,r,e3,rfl,G,t,u,y.step i,fun h=>absurd h o⟩,i⟩
 ·intro hk w3 j a;rw[aB (by omega),aA hk];apply(VY d f base g off cap z (s.p+1+2) B _ w3 j (y.step a) t u).mono;rintro e w' ⟨rfl,st',a1,a2,J,K,L,M,c,H,T,b⟩;have i:=a.trans b;refine⟨.inl ⟨0,rfl⟩,rfl,st.v,k.after (st:=st') c i a1 (n.same a2.1 a2.2) (by rw[J];exact r) K L (M.trans G) ?_ ?_ T (fun _=>H) rfl k.room k.left (by dsimp only;omega),i⟩
  ·obtain⟨mb,m1,_⟩:=H.sm;exact⟨_,m1⟩
  ·obtain⟨x,m1,_⟩:=H.dm;exact⟨_,m1⟩
 ·intro hk w3 j a;rw[aB (by omega),aB (by omega),aA hk];apply(ZT d f base g off cap z (s.p+1+2) B _ w3 j (by omega) (k.order.step a.step k.aw7) k.zero.2 t u).mono;rw[show s.p+1+2=s.p+3 from rfl];intro e w' hp;cases hr:bW B (s.p+3)with
  |ok Y q=>
   rw[hr]at hp;obtain⟨rfl,st',a1,a2,J,K,L,M,R,c,H,b⟩:=hp;have i:=a.trans b;have X:=SI hr;have P:=Gf hr;have F:=H P.1 P.2;refine⟨.inl ⟨0,rfl⟩,rfl,st.v,k.after (st:=st') c i a1 (n.same a2.1 a2.2) (by rw[J];exact r) K L (M.trans G) ?_ ?_ (by rw[R];exact y.step i) (fun _=>F) rfl k.room k.left X.2,i⟩
   ·obtain⟨mb,m1,_⟩:=F.sm;exact⟨_,m1⟩
   ·obtain⟨x,m1,_⟩:=F.dm;exact⟨_,m1⟩
  |no x=>
   rw[hr]at hp;obtain⟨rfl,q,c,b⟩:=hp;exact⟨.inl ⟨x,rfl⟩,rfl,zL hr,{ st with last:=bK B s.p==1 },q,n.same rfl rfl,c,a.trans b⟩
  |miss=>
   rw[hr]at hp;obtain⟨rfl,q,c,b⟩:=hp;have i:=a.trans b;exact⟨.inr rfl,rfl,(bK B s.p==1),q,fun h=>by omega,⟨{ st with last:=bK B s.p==1 },rfl,c,n.same rfl rfl,r,e3,rfl,G,t,u,y.step i,fun h=>absurd h o⟩,i⟩
 ·intro hk w3 j a;rw[aB (by omega),aB (by omega),aB (by omega)];exact⟨rfl,by omega,{ st with last:=bK B s.p==1 },_,n.same rfl rfl,j,a⟩
def Ya (d:Nat)(place:Nat)(w:aH)(Q:Ending->aH->Prop)(m:w.cell? (U d 4)=some (V place))(k:place=1->Calls prog 173 #[E d] w fun e w'=>Ends e/\Q e w')(l:place=2->Calls prog 174 #[E d] w fun e w'=>Ends e/\Q e w')(j:place≠1->place≠2->Calls prog 175 #[E d] w fun e w'=>Ends e/\Q e w'):Calls prog 151 #[E d] w fun e w'=>Q e w':=by
 by_cases c:place=1
 ·have b:=hide (k c);subst c;go_enter func151,ntmps151;go_wp2_with fail;apply b.o.mono;rintro e w4 ⟨⟨x,rfl⟩|rfl,a⟩
  ·go_wp2_with fail;exact a
  ·go_wp2_with fail;exact⟨rfl,a⟩
 by_cases i:place=2;focus
  have b:=hide (l i);subst i
 rotate_left;focus
  have b:=hide (j c i);have b1:((place:Int)==1)=false:=aX.2 (by omega);have b2:((place:Int)==2)=false:=aX.2 (by omega)
 all_goals
  go_enter func151,ntmps151;go_wp2_with fail;apply b.o.mono;rintro e w4 ⟨⟨x,rfl⟩|rfl,a⟩
  ·go_wp2_with fail;exact a
  ·go_wp2_with fail;exact⟨rfl,a⟩
def I8.ends {r:G}{s:GS}{e:Ending}(h:I8 r d f base g off cap z B s w v e w'):Ends e:=by
 cases r with
 |go s'=>obtain⟨rfl,_⟩:=h;exact .inl ⟨0,rfl⟩
 |no x out=>obtain⟨rfl,_⟩:=h;exact .inl ⟨x,rfl⟩
 |miss=>obtain⟨rfl,_⟩:=h;exact .inr rfl
def Xm (d f base g off cap z:Nat)(B:aD)(s:GS)(v:aK)(w:aH)(j:dJ w d f base g off cap z B s v):Calls prog 151 #[E d] w fun e w'=>I8 (bM B s) d f base g off cap z B s w v e w':=by
 obtain⟨st,n,k,l,m,e3,_⟩:=j.ex;have c:=k.dec.cell.2.2.2.1;rw[e3]at c;refine Ya d s.place w _ c ?_ ?_ ?_
 ·intro a;have i:bM B s=nO B s:=by unfold bM;rw[aA a]
  rw[i];exact(UU d f base g off cap z B s v w j a).mono fun e w' h=>⟨h.ends,h⟩
 ·intro b;have i:bM B s=uF B s:=by unfold bM;rw[aB (by omega),aA b]
  rw[i];exact(Nz d f base g off cap z B s v w j b).mono fun e w' h=>⟨h.ends,h⟩
 ·intro a b;have i:bM B s=kL B s:=by unfold bM;rw[aB a,aB b]
  rw[i];exact(aa2 d f base g off cap z B s v w j a b).mono fun e w' h=>⟨h.ends,h⟩
def MC (a b c:aK)(w:aH):CallsD prog 154 #[a,b,c] .returning w fun e k w'=>e= .returned (.tuple #[])/\k= .returning/\w'=w:=by refine callsD_of_wpS func154 rfl fun i l j=> ?_;apply wpS_seq;apply wpS_region;simp[wpOpsS,go_sem,recoverD,j,ntmps154,Exit.thenS];refine wpS_of_wp ?_;go_wp2;cases i;simp_all [bodyPostS,results,results154]
def isMissing (w:aH):(Instr.typeAssert (.iface 197 (.agg #[])) 20 197 true).run prog w= .ok (.tuple #[.agg #[], .bool true]) w:=by kernel_rfl
def MI (R f p q:Nat)(s:aK)(x:Int)(w:aH)(n:w.cell? (U R 0)=some (E f))(r:w.cell? ⟨R+1+1,0,none⟩=some (V p))(b:w.heap[f]? =some (.cells #[s,V q,V z] 91 (0,0)))(a:w.heap[R+1]? =some (.cells #[V x] 43 (0,0)))(i:¬f=R+1):CallsD prog 154 #[.pointer (some ⟨R+1+1,0,none⟩),E R, .pointer (some ⟨R+1,0,none⟩)] (.panicking [{ v:=missing,recovered:=false }]) w fun e D w'=>e= .returned (.tuple #[])/\D= .panicking [{ v:=missing,recovered:=true }]/\Step (fun k=>k=f\/k=R+1) w w'/\w'.heap[f]? =some (.cells #[s,V p,V z] 91 (0,0))/\w'.heap[R+1]? =some (.cells #[V 3] 43 (0,0)):=by
 have hs:∀o,O w (w.alloc o):=fun o=>(aU _ _).alloc o;have L:∀o,(w.alloc o).cell? (U R 0)=some (E f):=fun o=>(hs o).cell n (fun x=>x);have M:∀o,(w.alloc o).cell? ⟨R+1+1,0,none⟩=some (V p):=fun o=>(hs o).cell r (fun x=>x);have c1:∀o,(w.alloc o).cell? (U f 1)=some (V q):=fun o=>(fV ((hs o).at_ b (fun x=>x))).2.1;have m:∀o,(w.alloc o).frozen? (U f 1)=false:=fun o=>(fV ((hs o).at_ b (fun x=>x))).2.2.2.1;have r0:∀o,(w.alloc o).cell? ⟨R+1,0,none⟩=some (V x):=fun o=>jO ((hs o).at_ a (fun x=>x));have N:∀o,(w.alloc o).frozen? ⟨R+1,0,none⟩=false:=fun o=>free_of_one ((hs o).at_ a (fun x=>x));have t:=aO b;have u:=aO a;have H:=(fV b).2.1;have I:=(fV b).2.2.2.1;have J:=jO a;have K:=free_of_one a;refine callsD_of_wpS func154 rfl fun G F C=> ?_;apply wpS_seq;apply wpS_region;simp[wpOpsS,go_sem,recoverD,C,ntmps154,Exit.thenS];refine wpS_of_wp ?_;unfold missing;have y:=isMissing;go_wp2_with fail;have j:=aV b 1 (V p);have l:=(show(w.setCell (U f 1) (V p)).heap[R+1]? =w.heap[R+1]? from cZ _ _ _ _ (fun x=>i x.symm)).trans a;refine⟨rfl,_,rfl, .tuple #[],by simp[results,results154],rfl,rfl,?_,?_,?_⟩
 ·exact(((aU (fun k=>k=f\/k=R+1) w).setCell (p:=(U f 1)) (.inl rfl) _).setCell (p:=⟨R+1,0,none⟩) (.inr rfl) _).alloc _
 ·have c:=(show((w.setCell (U f 1) (V p)).setCell ⟨R+1,0,none⟩ (V 3)).heap[f]? =(w.setCell (U f 1) (V p)).heap[f]? from cZ _ _ _ _ i).trans j;refine(dG _ _ _ (aO c)).trans (c.trans ?_);simp
 ·have c:=aV l 0 (V 3);refine(dG _ _ _ (aO c)).trans (c.trans ?_);simp
structure JX (f p z:Nat)(s:aK)(w:aH)(Post:aH->Ending->aH->Prop)(e:Ending)(w'':aH):Prop where
  ex:∃w1 e1 w',O w w1/\w1.heap.size=w.heap.size+3/\Post w1 e1 w'/\
    ((∃x:Nat,e1= .returned (V (x:Nat))/\e= .returned (V (x:Nat))/\w''=w'.setCell ⟨w.heap.size+1,0,none⟩ (V (x:Nat)))\/
     (e1=lost/\e= .returned (V 3)/\Step (fun k=>k=f\/k=w.heap.size+1) w' w''/\w''.heap[f]? =some (.cells #[s,V (p:Nat),V (z:Nat)] 91 (0,0))))
def Oj (f d p:Nat)(s:aK)(w:aH)(b:aH->Ending->aH->Prop)(t:w.heap[f]? =some (.cells #[s,V p,V z] 91 (0,0)))(m:∀w1,O w w1->w1.heap.size=w.heap.size+3->w1.heap[w.heap.size+1]? =some (.cells #[V 0] 43 (0,0))->Calls prog 151 #[E d] w1 fun e w'=>Ends e/\b w1 e w')(i:∀w1 e w',O w w1->w1.heap.size=w.heap.size+3->b w1 e w'->w'.heap[w.heap.size]? =w1.heap[w.heap.size]? /\w'.heap[w.heap.size+1]? =w1.heap[w.heap.size+1]? /\w'.heap[w.heap.size+1+1]? =w1.heap[w.heap.size+1+1]? /\∃q:Nat,w'.heap[f]? =some (.cells #[s,V q,V z] 91 (0,0))):Calls prog 125 #[E f, .func (.func 151) #[E d] #[]] w fun e l=>JX f p z s w b e l:=by
 obtain⟨_,c1,_,_,_⟩:=fV t;have y:=aO t;have I:=ar9;go_enter_defers func125,ntmps125;go_wp2_with fail;have j:O w (((w.alloc (.cells #[E f] 72)).alloc (.cells #[V 0] 43)).alloc (.cells #[V p] 3)):=(((aU _ _).alloc _).alloc _).alloc _;have k:(((w.alloc (.cells #[E f] 72)).alloc (.cells #[V 0] 43)).alloc (.cells #[V p] 3)).heap.size=w.heap.size+3:=by simp
 have n:(((w.alloc (.cells #[E f] 72)).alloc (.cells #[V 0] 43)).alloc (.cells #[V p] 3)).heap[w.heap.size+1]? =some (.cells #[V 0] 43 (0,0)):=(dG _ _ _ (by simp)).trans (heap_alloc2_new _ _ _);have o:(((w.alloc (.cells #[E f] 72)).alloc (.cells #[V 0] 43)).alloc (.cells #[V p] 3)).heap[w.heap.size]? =some (.cells #[E f] 72 (0,0)):=(dG _ _ _ (by simp;omega)).trans ((dG _ _ _ (by simp)).trans (aR _ _));have r:(((w.alloc (.cells #[E f] 72)).alloc (.cells #[V 0] 43)).alloc (.cells #[V p] 3)).heap[w.heap.size+1+1]? =some (.cells #[V p] 3 (0,0)):=by
  have H:=aR ((w.alloc (.cells #[E f] 72)).alloc (.cells #[V 0] 43)) (.cells #[V p] 3);simpa using H
 generalize(((w.alloc (.cells #[E f] 72)).alloc (.cells #[V 0] 43)).alloc (.cells #[V p] 3))=w1 at*;apply(m w1 j k n).mono;rintro e w2 ⟨⟨x,rfl⟩|rfl,a⟩
 ·have u:=(i w1 _ w2 j k a).2.1.trans n;have r0:=jO u;have N:=free_of_one u;go_wp2_with fail;refine leaves_cons (f:=154) (args:=#[.pointer (some ⟨w.heap.size+1+1,0,none⟩),E w.heap.size, .pointer (some ⟨w.heap.size+1,0,none⟩)]) (by simp) (by simp[go_sem]) ?_;apply(MC _ _ _ _).mono;rintro e M l ⟨rfl,rfl,rfl⟩;have c:JX f p z s w b (.returned (V x)) (w2.setCell ⟨w.heap.size+1,0,none⟩ (V x)):=⟨⟨w1,_,w2,j,k,a, .inl ⟨x,rfl,rfl,rfl⟩⟩⟩
  refine⟨V x,?_,c⟩;simp[results,results125,go_sem,r0]
 ·obtain⟨b0,b1,b2,q,J⟩:=i w1 _ w2 j k a;have r0:=jO (b0.trans o);have K:=jO (b2.trans r);have C:=b1.trans n;go_wp2_with fail;refine leaves_cons (f:=154) (args:=#[.pointer (some ⟨w.heap.size+1+1,0,none⟩),E w.heap.size, .pointer (some ⟨w.heap.size+1,0,none⟩)]) (by simp) (by simp[go_sem]) ?_;apply(MI w.heap.size f p q s 0 w2 r0 K J C (by omega)).mono;rintro e M l ⟨rfl,rfl,D,F,G⟩;have L:=jO G;have c:JX f p z s w b (.returned (V 3)) l:=⟨⟨w1,_,w2,j,k,a, .inr ⟨rfl,rfl,D,F⟩⟩⟩
  refine⟨V 3,?_,c⟩;simp[results,results125,go_sem,L]
def SV (f d p:Nat)(s:aK)(w:aH)(b:aH->Ending->aH->Prop)(t:w.heap[f]? =some (.cells #[s,V p,V z] 91 (0,0)))(m:∀w1,O w w1->w1.heap.size=w.heap.size+3->w1.heap[w.heap.size+1]? =some (.cells #[V 0] 43 (0,0))->Calls prog 124 #[E d] w1 fun e w'=>Ends e/\b w1 e w')(i:∀w1 e w',O w w1->w1.heap.size=w.heap.size+3->b w1 e w'->w'.heap[w.heap.size]? =w1.heap[w.heap.size]? /\w'.heap[w.heap.size+1]? =w1.heap[w.heap.size+1]? /\w'.heap[w.heap.size+1+1]? =w1.heap[w.heap.size+1+1]? /\∃q:Nat,w'.heap[f]? =some (.cells #[s,V q,V z] 91 (0,0))):Calls prog 125 #[E f, .func (.func 124) #[E d] #[]] w fun e l=>JX f p z s w b e l:=by
 obtain⟨_,c1,_,_,_⟩:=fV t;have y:=aO t;have I:=ar9;go_enter_defers func125,ntmps125;go_wp2_with fail;have j:O w (((w.alloc (.cells #[E f] 72)).alloc (.cells #[V 0] 43)).alloc (.cells #[V p] 3)):=(((aU _ _).alloc _).alloc _).alloc _;have k:(((w.alloc (.cells #[E f] 72)).alloc (.cells #[V 0] 43)).alloc (.cells #[V p] 3)).heap.size=w.heap.size+3:=by simp
 have n:(((w.alloc (.cells #[E f] 72)).alloc (.cells #[V 0] 43)).alloc (.cells #[V p] 3)).heap[w.heap.size+1]? =some (.cells #[V 0] 43 (0,0)):=(dG _ _ _ (by simp)).trans (heap_alloc2_new _ _ _);have o:(((w.alloc (.cells #[E f] 72)).alloc (.cells #[V 0] 43)).alloc (.cells #[V p] 3)).heap[w.heap.size]? =some (.cells #[E f] 72 (0,0)):=(dG _ _ _ (by simp;omega)).trans ((dG _ _ _ (by simp)).trans (aR _ _));have r:(((w.alloc (.cells #[E f] 72)).alloc (.cells #[V 0] 43)).alloc (.cells #[V p] 3)).heap[w.heap.size+1+1]? =some (.cells #[V p] 3 (0,0)):=by
  have H:=aR ((w.alloc (.cells #[E f] 72)).alloc (.cells #[V 0] 43)) (.cells #[V p] 3);simpa using H
 generalize(((w.alloc (.cells #[E f] 72)).alloc (.cells #[V 0] 43)).alloc (.cells #[V p] 3))=w1 at*;apply(m w1 j k n).mono;rintro e w2 ⟨⟨x,rfl⟩|rfl,a⟩
 ·have u:=(i w1 _ w2 j k a).2.1.trans n;have r0:=jO u;have N:=free_of_one u;go_wp2_with fail;refine leaves_cons (f:=154) (args:=#[.pointer (some ⟨w.heap.size+1+1,0,none⟩),E w.heap.size, .pointer (some ⟨w.heap.size+1,0,none⟩)]) (by simp) (by simp[go_sem]) ?_;apply(MC _ _ _ _).mono;rintro e M l ⟨rfl,rfl,rfl⟩;have c:JX f p z s w b (.returned (V x)) (w2.setCell ⟨w.heap.size+1,0,none⟩ (V x)):=⟨⟨w1,_,w2,j,k,a, .inl ⟨x,rfl,rfl,rfl⟩⟩⟩
  refine⟨V x,?_,c⟩;simp[results,results125,go_sem,r0]
 ·obtain⟨b0,b1,b2,q,J⟩:=i w1 _ w2 j k a;have r0:=jO (b0.trans o);have K:=jO (b2.trans r);have C:=b1.trans n;go_wp2_with fail;refine leaves_cons (f:=154) (args:=#[.pointer (some ⟨w.heap.size+1+1,0,none⟩),E w.heap.size, .pointer (some ⟨w.heap.size+1,0,none⟩)]) (by simp) (by simp[go_sem]) ?_;apply(MI w.heap.size f p q s 0 w2 r0 K J C (by omega)).mono;rintro e M l ⟨rfl,rfl,D,F,G⟩;have L:=jO G;have c:JX f p z s w b (.returned (V 3)) l:=⟨⟨w1,_,w2,j,k,a, .inr ⟨rfl,rfl,D,F⟩⟩⟩
  refine⟨V 3,?_,c⟩;simp[results,results125,go_sem,L]
def Fe {st:iH}(a:mF w d f base g off cap z B st q)(b:w.heap[b1]? =some (.cells A 43 (0,0))):d≠b1/\f≠b1/\(∀k,st.v.ownBlock=some k->k≠b1)/\(∀mb M,TabAt w mb M->mb≠b1)/\(∀e j,w.heap[e]? =some (.cells j 125 (0,0))->e≠b1):=by
 refine⟨fun x=>by have:=a.dec.blk;rw[x,b]at this;simp at this,fun x=>by have:=a.feed;rw[x,b]at this;simp at this,fun k hk x=> ?_,fun mb M c x=> ?_,fun e j c x=>by rw[x,b]at c;simp at c⟩
 ·obtain⟨_,⟨i,_⟩|⟨n,_,_,i,_,hh,_⟩⟩:=a.dec.own
  ·rw[i]at hk;simp[Value.ownBlock]at hk
  ·rw[i]at hk;simp only[Value.ownBlock,fH]at hk;rw[hk,x,b]at hh;simp at hh
 ·obtain⟨_,_,_,⟨m,l,hh,_⟩,_⟩:=c;rw[x,b]at hh;simp at hh
def XE {st:iH}(a:mF w d f base g off cap z B st q)(hs:Step (fun k=>k=f\/k=b1) w w')(c:w.heap[b1]? =some (.cells A 43 (0,0)))(e:g≠b1)(b:w'.heap[f]? =some (.cells #[.slice (bE g off B.length) B.length cap,V p,V z] 91 (0,0))):mF w' d f base g off cap z B st p:=by obtain⟨n1,n2,n3,i,j⟩:=Fe a c;exact⟨a.dec.other (hs.block d (aO a.dec.blk) (fun x=>x.elim a.dec.ne n1)) (fun k hk=>hs.block k (a.dec.own.lt k hk).2 (fun x=>x.elim (fun y=>a.dec.yL.2 (y▸hk)) (n3 k hk))) hs.size,b,a.src.step hs (fun x=>x.elim a.af9.f e),a.af9,nM a.glt hs.size⟩
def QA.reset {s:GS}(h:QA w d f base g off cap z B s v q)(hs:Step (fun k=>k=f\/k=b1) w w')(C:w.heap[b1]? =some (.cells A 43 (0,0)))(P:g≠b1)(M:w'.heap[f]? =some (.cells #[.slice (bE g off B.length) B.length cap,V s.p,V z] 91 (0,0)))(N:bL w)(T:4<=d/\4<=f)(W:4<=b1)(m:4<=w.heap.size)(R:s.most<=1048576)(S:s.out.length<=s.most)(Q:s.left<=65535)(hp:s.p<=8*B.length):dJ w' d f base g off cap z B s v:=by
 obtain⟨st,rfl,b,D,F,e3,G,H,I,J,l,K⟩:=h;obtain⟨n1,n2,n3,e,X⟩:=Fe b C;have off:∀k,tK d f st.v k->k≠b1->¬(k=f\/k=b1):=fun k hk hn x=>x.elim hk.f hn;refine⟨⟨st,rfl,XE b hs C P M,D,F,e3,G,H,I,J,?_,fun c=> ?_⟩,N.step hs (fun k hk x=>by rcases x with x|x<;>omega),T,bB m hs.size,R,S,Q,hp⟩
 ·rcases l with l|⟨j,m1,m2,L,c,o,r,t,u,y⟩
  ·exact .inl l
  ·exact .inr ⟨j,m1,m2,L,hs.at_ c (off j t (X j _ c)),o.step hs (off m1 u (e _ _ o)),r.step hs (off m2 y (e _ _ r)),t,u,y⟩
 ·have a:=K c;obtain⟨mb,a1,a2,n⟩:=a.sm;obtain⟨x,i,b2⟩:=a.dm;refine⟨⟨mb,a1,a2.step hs (off mb n (e _ _ a2)),n⟩,a.sl,⟨x,i,?_⟩,a.dl,a.sn,a.dn⟩;rcases b2 with b2|⟨m2,c1,c2,c3⟩
  ·exact .inl b2
  ·exact .inr ⟨m2,c1,c2.step hs (off m2 c3 (e _ _ c2)),c3⟩
def dJ.toQ {s:GS}(h:dJ w d f base g off cap z B s v):QA w d f base g off cap z B s v s.p:=h.ex
def dJ.place {s:GS}(h:dJ w d f base g off cap z B s v):w.cell? (U d 0)=some (E f)/\w.cell? (U d 4)=some (V s.place)/\w.heap[f]? =some (.cells #[.slice (bE g off B.length) B.length cap,V s.p,V z] 91 (0,0))/\d<w.heap.size/\f<w.heap.size/\g<w.heap.size/\(∀k,v.ownBlock=some k->k<w.heap.size):=by obtain⟨st,rfl,a,c,e,e3,i,j,l,m,n,o⟩:=h.ex;obtain⟨b,_,_,c3,_⟩:=a.dec.cell;rw[e3]at c3;exact⟨b,c3,a.feed,aO a.dec.blk,aO a.feed,a.glt,fun k hk=>(a.dec.own.lt k hk).2⟩
def dJ.step0 {s:GS}(h:dJ w d f base g off cap z B s v)(hs:O w w'):dJ w' d f base g off cap z B s v:=by obtain⟨st,rfl,b,c,e,e3,i,j,k,l,m,n⟩:=h.ex;have a:fC d f w st.v w' st.v:=fC.step0 hs;exact h.after (b.step0 hs) a rfl c e e3 i j k l (m.step a) (fun hp=>(n hp).step a rfl rfl rfl rfl) rfl h.room h.left h.bits
def aC6 (r:G)(d f base g off cap z:Nat)(B:aD)(s:GS)(w:aH)(v:aK)(e:Ending)(w':aH):Prop:=
 match r with
 | .go s'=>e= .returned (V 0)/\∃v',dJ w' d f base g off cap z B s' v'/\fC d f w v w' v'
 | .no x out=>e= .returned (V (x:Nat))/\x≠0/\∃st q,sG st s.taken out/\mF w' d f base g off cap z B st q/\fC d f w v w' st.v
 | .miss=>e= .returned (V 3)/\∃l,(s.place=1\/s.place=2->l=s.last)/\dJ w' d f base g off cap z B { s with last:=l } v/\fC d f w v w' v
def I8.facts {r:G}{s:GS}{e:Ending}(h:I8 r d f base g off cap z B s w v e w'):∃i q st,fC d f w v w' i/\mF w' d f base g off cap z B st q:=by
 cases r with
 |go s'=>obtain⟨_,i,c,b⟩:=h;obtain⟨st,_,a,_⟩:=c.ex;exact⟨i,_,st,b,a⟩
 |no x out=>obtain⟨_,_,st,q,_,c,b⟩:=h;exact⟨_,q,st,b,c⟩
 |miss=>obtain⟨_,l,q,_,⟨st,_,a,_⟩,b⟩:=h;exact⟨_,q,st,b,a⟩
def Pm (d f base g off cap z:Nat)(B:aD)(s:GS)(v:aK)(w:aH)(i:dJ w d f base g off cap z B s v):Calls prog 125 #[E f, .func (.func 151) #[E d] #[]] w fun e w'=>aC6 (bM B s) d f base g off cap z B s w v e w':=by
 obtain⟨_,_,R,S,T,W,L⟩:=i.place;have P:=i.zlt;have a:∀k,w.heap.size<=k->¬(k=d\/k=f\/v.ownBlock=some k):=fun k hk j=>by
  rcases j with j|j|j
  ·omega
  ·omega
  ·have:=L k j;omega
 refine(Oj f d s.p _ w (fun w1 e w'=>I8 (bM B s) d f base g off cap z B s w1 v e w'/\∃A,w'.heap[w.heap.size+1]? =some (.cells A 43 (0,0))) R ?_ ?_).mono ?_
 ·intro w1 hs H X;apply(Xm d f base g off cap z B s v w1 (i.step0 hs)).mono;intro e w' hp;obtain⟨r,q,st,F,G⟩:=hp.facts;exact⟨hp.ends,hp,_,F.step.at_ X (a _ (by omega))⟩
 ·rintro w1 e w' hs H ⟨hp,_⟩;obtain⟨r,q,st,F,G⟩:=hp.facts;exact⟨F.step.block _ (by omega) (a _ (by omega)),F.step.block _ (by omega) (a _ (by omega)),F.step.block _ (by omega) (a _ (by omega)),q,G.feed⟩
 ·rintro e Z ⟨w1,e1,w',hs,H,⟨hp,A,J⟩,c⟩;have t:∀r,fC d f w1 v w' r->fC d f w v w' r:=fun r m=>⟨(hs.mono (fun _ x=>x.elim)).trans m.step,fun k hk=>(m.own k hk).imp id (fun j=>by omega)⟩
  cases hg:bM B s with
  |go s'=>
   rw[hg]at hp;obtain⟨rfl,r,b,m⟩:=hp;rcases c with⟨x,j,rfl,rfl⟩|⟨j,_⟩
   ·cases j;have u:Step (fun k=>k=f\/k=w.heap.size+1) w' (w'.setCell ⟨w.heap.size+1,0,none⟩ (V 0)):=(aU _ w').setCell (p:=⟨w.heap.size+1,0,none⟩) (.inr rfl) _;have C:Step (·=w.heap.size+1) w' (w'.setCell ⟨w.heap.size+1,0,none⟩ (V 0)):=(aU (·=w.heap.size+1) w').setCell (p:=⟨w.heap.size+1,0,none⟩) rfl _;have K:=b.place.2.2.1;refine⟨rfl,r,b.toQ.reset u J (by omega) (C.at_ K (by omega)) b.order b.zero (by omega) b.zlt b.most b.room b.left b.bits,?_⟩;have o:=t r m;exact⟨o.step.aZ (by simp) _,o.own⟩
   ·cases j
  |no x out=>
   rw[hg]at hp;obtain⟨rfl,M,st,q,b,m,o⟩:=hp;rcases c with⟨y,I,rfl,rfl⟩|⟨I,_⟩
   ·have N:y=x:=by
     have:=I;simp only[Ending.returned.injEq,Value.int.injEq,true_and]at this;omega
    subst N;have u:Step (fun k=>k=f\/k=w.heap.size+1) w' (w'.setCell ⟨w.heap.size+1,0,none⟩ (V (y:Nat))):=(aU _ w').setCell (p:=⟨w.heap.size+1,0,none⟩) (.inr rfl) _;have C:Step (·=w.heap.size+1) w' (w'.setCell ⟨w.heap.size+1,0,none⟩ (V (y:Nat))):=(aU (·=w.heap.size+1) w').setCell (p:=⟨w.heap.size+1,0,none⟩) rfl _;refine⟨rfl,M,st,q,b,XE m u J (by omega) (C.at_ m.feed (by omega)),?_⟩;have n:=t _ o;exact⟨n.step.aZ (by simp) _,n.own⟩
   ·cases I
  |miss=>
   rw[hg]at hp;obtain⟨rfl,l,q,b,m,o⟩:=hp;rcases c with⟨y,I,_⟩|⟨_,rfl,n,Q⟩
   ·cases I
   ·have D:=t _ o;have Y:=o.step.size;refine⟨rfl,l,b,QA.reset (s:={ s with last:=l }) m n J (by omega) Q ((i.order.step hs (fun _ _ x=>x)).step o.step i.aw7) i.zero (by omega) (by omega) i.most i.room i.left i.bits,?_⟩;refine⟨⟨n.os.trans D.step.os,n.tape.trans D.step.tape,n.output.trans D.step.output,bB D.step.size n.size,fun k hk hn=> ?_⟩,fun k hk=> .inl hk⟩;exact(n.block k (by have:=D.step.size;omega) (fun x=>x.elim (fun y=>hn (.inr (.inl y))) (fun y=>by omega))).trans (D.step.block k hk hn)
def FX {s s':GS}{xs:aD}(h:mM s xs p= .go s'):s'.taken=s.taken:=by rw[(E9 h).1]
def ME {s s':GS}(h:bM B s= .go s'):s'.taken=s.taken:=by
 unfold bM at h;split at h
 ·unfold nO at h;split at h
  ·simp only[G.go.injEq]at h;rw[<-h];rfl
  ·split at h
   ·exact FX (s:={ s with left:=s.left-1 }) h
   ·simp at h
 ·split at h
  ·unfold uF at h;split at h
   ·simp at h
   ·simp at h
   ·split at h
    ·exact FX h
    ·split at h
     ·simp only[G.go.injEq]at h;rw[<-h];rfl
     ·unfold gCopy at h;split at h
      ·simp at h
      ·simp at h
      ·split at h
       ·simp at h
       ·simp at h
       ·split at h
        ·simp at h
        ·exact FX h
  ·unfold kL at h;split at h
   ·split at h
    ·split at h
     ·split at h
      ·simp only[G.go.injEq]at h;rw[<-h]
      ·simp at h
     ·simp at h
    ·split at h
     ·simp only[G.go.injEq]at h;rw[<-h]
     ·split at h
      ·split at h
       ·simp only[G.go.injEq]at h;rw[<-h]
       ·simp at h
       ·simp at h
      ·simp at h
   ·simp at h
def Xk (d f base g off cap z n e:Nat)(B:aD)(s:GS)(out:aD)(q:Nat)(v:aK)(w:aH)(Q:dJ w d f base g off cap z B s v)(T:eZ B n s e out q):Calls prog 117 #[E d] w fun r w'=>r= .returned (V e)/\∃st q',sG st s.taken out/\(e=0->q'=q/\q<=8*B.length)/\mF w' d f base g off cap z B st q'/\fC d f w v w' st.v:=by
 have S:=ar9;go_enter func117,ntmps117;go_wp2_with fail;go_loopg [4] n (fun k u wr=>∃c v1,dJ wr d f base g off cap z B c v1/\eZ B k c e out q/\fC d f w v wr v1/\c.taken=s.taken);case atStart=>exact⟨s,v,Q,T,fC.refl _ _ _ _,rfl⟩
 case round=>
  obtain⟨c,v1,y,P,C,b⟩:=hrel;obtain⟨Z,c3,_⟩:=y.place;have a:=Pm d f base g off cap z B c v1 wr y;rcases P.inv with⟨hp,K,L,F⟩|⟨hp,j,F⟩|⟨hp,j,K,L,F⟩|⟨m,s2,hk,hp,j,k2⟩
  ·rw[hp]at c3;go_wp2_with fail;go_ret;obtain⟨st,M,i,I,_⟩:=y.ex;refine⟨by rw[K];rfl,st,c.p,by rw[L,<-b];exact I,fun _=>⟨F.symm,by rw[F];exact y.bits⟩,i,by rw[M];exact C⟩
  ·have x:((c.place:Int) !=3)=true:=(by rw[jP];omega);rw[j]at a;go_wp2_with fail;apply a.mono;rintro r w2 ⟨rfl,W,st,q',D,t,J⟩;have X:((e:Int) !=0)=true:=(by rw[jP];omega);have G:=hide (C.trans J);go_wp2_with fail;go_ret;exact⟨rfl,st,q',by rw[<-b];exact D,fun h=>absurd h W,t,G.o⟩
  ·have x:((c.place:Int) !=3)=true:=(by rw[jP];omega);rw[j]at a;subst K;go_wp2_with fail;apply a.mono;rintro r w2 ⟨rfl,l,D,t,J⟩;have G:=hide (C.trans J);go_wp2_with fail;go_ret;obtain⟨st,M,i,I,_⟩:=t.ex;refine⟨rfl,st,_,by rw[L,<-b];exact I,fun h=>by omega,i,by rw[M];exact G.o⟩
  ·have x:((c.place:Int) !=3)=true:=(by rw[jP];omega);rw[j]at a;have H:=hide ((ME j).trans b);have R:m<gk:=(by omega);go_wp2_with fail;apply a.mono;rintro r w2 ⟨rfl,Y,D,t⟩;have N:=hide (C.trans t);go_wp2_with fail;go_roundg m;case measure=>omega
   case rel=>exact⟨_,Y,D,k2,N.o,H.o⟩
end Go.Proofs.YtbpahojchgpdnaaGreatDoor
