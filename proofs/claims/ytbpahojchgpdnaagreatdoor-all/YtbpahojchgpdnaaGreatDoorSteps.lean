import Derived.Test.YtbpahojchgpdnaaGreatDoorGStretch
import Derived.Test.YtbpahojchgpdnaaGreatDoorGHead
set_option maxRecDepth 20000
set_option maxHeartbeats 4000000
set_option linter.all false
namespace Go.Proofs.YtbpahojchgpdnaaGreatDoor
open Go.RowKit Go.dM Go.Maps Go.Proofs.Tryz
variable {w w':aH} {b1 base cap d f g off p q z:Nat} {v:aK} {B:aD} {A:Array aK}
def aA8 (r:G)(d f base g off cap z:Nat)(B:aD)(s:GS)(st:iH)(w:aH)(e:Ending)(w':aH):Prop:=
 match r with
 | .go s'=>e= .returned (V 0)/\∃v' xs,s'={ s with out:=s.out++xs,p:=s'.p }/\(s.out++xs).length<=s.most/\s'.p<=8*B.length/\mF w' d f base g off cap z B (st.add v' xs) s'.p/\fC d f w st.v w' v'
 | .no x out=>e= .returned (V (x:Nat))/\x≠0/\∃st' q,sG st' s.taken out/\mF w' d f base g off cap z B st' q/\fC d f w st.v w' st'.v
 | .miss=>e=lost/\∃q,mF w' d f base g off cap z B st q/\fC d f w st.v w' st.v
def Wm.aD2 {x:aK}{D:d9}(h:Wm w d f v x D)(hs:fC d f w v w' v):al6 w' x D f:=by
 rcases h with h|⟨mb,b,c,a⟩
 ·exact .inl h
 ·exact .inr ⟨mb,b,a.f,c.step hs.step a.not⟩
def QI {c n q':Nat}(h:eF B q c= .ok n q')(e:257<=c):3<=n/\n<=258:=by
 unfold eF at h;split at h
 ·simp at h
 ·split at h
  ·simp only[R.ok.injEq]at h;obtain⟨rfl,_⟩:=h;omega
  ·split at h
   ·simp only[R.ok.injEq]at h;obtain⟨rfl,_⟩:=h;omega
   ·split at h
    ·simp only[R.ok.injEq]at h;obtain⟨rfl,_⟩:=h;have b:c<=284:=(by omega);have a:(c-261)/4=1\/(c-261)/4=2\/(c-261)/4=3\/(c-261)/4=4\/(c-261)/4=5:=(by omega);have i:(c-265)%4<4:=wK _ (by omega);have hn:=bO B q ((c-261)/4);rcases a with a|a|a|a|a<;>rw[a]at hn|-<;>omega
    ·simp at h
def F7 {c e:Nat}(h:eF B q c= .no e):e=9:=by
 unfold eF at h;split at h
 ·simp only[R.no.injEq]at h;exact h.symm
 ·split at h
  ·simp at h
  ·split at h
   ·simp at h
   ·split at h<;>simp at h
def SG {D:d9}{e:Nat}(h:iQ D B q= .no e):e=9:=by
 unfold iQ at h;split at h
 ·rename_i a hs;simp only[R.no.injEq]at h;subst h;exact oU hs
 ·simp at h
 ·split at h
  ·simp only[R.no.injEq]at h;exact h.symm
  ·split at h
   ·simp at h
   ·split at h<;>simp at h
def Dw {D:d9}{n q':Nat}(h:iQ D B q= .ok n q'):1<=n/\n<=32768:=by
 unfold iQ at h;split at h
 ·simp at h
 ·simp at h
 ·rename_i s b hs;split at h
  ·simp at h
  ·split at h
   ·simp only[R.ok.injEq]at h;obtain⟨rfl,_⟩:=h;omega
   ·split at h
    ·simp only[R.ok.injEq]at h;obtain⟨rfl,_⟩:=h;have hn:=bO B b (s/2-1);have e:s%2<2:=wK _ (by omega);have a:s/2-1<=13:=(by omega);have hp:2^(s/2-1)<=2^13:=gL (by omega) a;have c:(2+s%2)*2^(s/2-1)<=3*2^(s/2-1):=mZ _ (by omega);omega
    ·simp at h
def YF (out:aD)(a len:Nat)(b:a<=out.length):copied out a len=round (out.drop (out.length-a)) len:=by
 unfold copied round;have e:(out.drop (out.length-a)).length=a:=by rw[dX];omega
 rw[e];apply IY;intro i _;rw[kM]
def kX (out:aD)(a len:Nat):(copied out a len).length=len:=by simp[copied]
def YV (d f base g off cap z q c:Nat)(B:aD)(s:GS)(st:iH)(w:aH)(S:mF w d f base g off cap z B st q)(hq:q<=8*B.length)(hc:257<=c)(ba:c<100000)(e1:sG st s.taken s.out)(e2:st.room+s.out.length=s.most)(hm:s.most<=1048576)(hr:s.out.length<=s.most)(ht:WB w d f st.v st s.ls s.ld):Calls prog 192 #[E d,V c] w fun e w'=>aA8 (gCopy B s c q) d f base g off cap z B s st w e w':=by
 obtain⟨c0,_⟩:=S.dec.cell;obtain⟨res,j⟩:=aP (gCopy B s c q);rw[<-j];unfold gCopy at j;have D:=e1.small e2 hm;have I:=UL f g off cap z q c B w S.feed S.src S.af9.f hq hc ba;go_enter func192,ntmps192;go_wp2_with fail;cases hL:eF B q c with
 |no x=>
  have hx:=F7 hL;subst hx;rw[hL]at I j;have l:=hide j;apply I.mono;rintro e w1 ⟨rfl,q1,P⟩;have H1:=hide (S.fed P);have H2:=hide (fC.fed (d:=d) (v:=st.v) P);go_wp2_with fail;go_ret;rw[l.o];exact⟨rfl,by omega,st,_,e1,H1.o,H2.o⟩
 |miss=>
  rw[hL]at I j;have l:=hide j;apply I.mono;rintro e w1 ⟨rfl,q1,P⟩;have H1:=hide (S.fed P);have H2:=hide (fC.fed (d:=d) (v:=st.v) P);go_wp2_with fail;rw[l.o];exact⟨rfl,rfl,_,H1.o,H2.o⟩
 |ok n q1=>
  have hn:=QI hL hc;have bb:=(FM hL hq).2;rw[hL]at I j;apply I.mono;rintro e w1 ⟨rfl,P⟩;have k:=S.fed P;have ag:fC d f w st.v w1 st.v:=fC.fed P;obtain⟨x,az,av⟩:=ht.dm;have ax:=ht.dl;obtain⟨k0,_,_,_,_,_,_,_,k8,k9,_⟩:=k.dec.cell;rw[az]at k8;rw[ax]at k9;have F:=L8 f g off cap z q1 x (aI s.ld) B w1.drew k.feed (k.src.step ((aU (fun _=>False) w1).drew) (fun x=>x)) k.af9.f (av.aD2 (ag.trans (fC.step0 ((aU (fun _=>False) w1).drew)))) (pY _) bb (YS ht.dn);have l:=hide j;go_wp2_with fail;cases hD:iQ (aI s.ld) B q1 with
  |no y=>
   have hy:=SG hD;subst hy;have F:=F;have j:=l.o;rw[hD]at F j;have l:=hide j
   go_region_held3 (fun w'=>w'.cell? (U d 0)=some (E f)/\w'.cell? (U d 9)=some (.map x)/\w'.cell? (U d 10)=some (V ((aI s.ld).longest:Nat))) (go_keep)
    (first|(go_at_call 202;apply F.mono;rintro e w2 ⟨rfl,q2,t⟩;have j0:=t.step.cell (p:=(U d 0)) k0 k.dec.ne;have j8:=t.step.cell (p:=(U d 9)) k8 k.dec.ne;have j9:=t.step.cell (p:=(U d 10)) k9 k.dec.ne))
   have H1:=hide ((k.step0 ((aU (fun _=>False) w1).drew)).fed t);have H2:=hide (ag.trans ((fC.step0 ((aU (fun _=>False) w1).drew)).trans (fC.fed (d:=d) (v:=st.v) t)));go_wp2_with fail;go_ret;rw[l.o];exact⟨rfl,by omega,st,_,e1,H1.o,H2.o⟩
  |miss=>
   have F:=F;have j:=l.o;rw[hD]at F j;have l:=hide j;go_region_dies;all_goals
    apply F.mono;rintro e w2 ⟨rfl,q2,t⟩;refine⟨rfl,?_⟩;rw[l.o];exact⟨rfl,_,(k.step0 ((aU (fun _=>False) w1).drew)).fed t,ag.trans ((fC.step0 ((aU (fun _=>False) w1).drew)).trans (fC.fed (d:=d) (v:=st.v) t))⟩
  |ok b q2=>
   have bj:=Dw hD;have au:=(RJ hD).2;have F:=F;have j:=l.o;rw[hD]at F j;replace j:res=if s.out.length<b then G.no 10 s.out else mM s (copied s.out b n) q2:=j
   have l:=hide j
   go_region_held3 (fun w'=>w'.cell? (U d 0)=some (E f)/\w'.cell? (U d 9)=some (.map x)/\w'.cell? (U d 10)=some (V ((aI s.ld).longest:Nat))) (go_keep)
    (first|(go_at_call 202;apply F.mono;rintro e w2 ⟨rfl,t⟩;have j0:=t.step.cell (p:=(U d 0)) k0 k.dec.ne;have j8:=t.step.cell (p:=(U d 9)) k8 k.dec.ne;have j9:=t.step.cell (p:=(U d 10)) k9 k.dec.ne))
   have C:=(k.step0 ((aU (fun _=>False) w1).drew)).fed t;have ae:=ag.trans ((fC.step0 ((aU (fun _=>False) w1).drew)).trans (fC.fed (d:=d) (v:=st.v) t));obtain⟨m0,_⟩:=C.dec.cell;go_wp2_with fail;apply(FI d f base st w2 C.dec D.out).mono;rintro e w3 ⟨rfl,a,rfl,X⟩;obtain⟨J,ah⟩:=aP st.out.length;rw[<-ah]at X|-
   obtain⟨old,hold,ai⟩:=e1.old;have ak:s.out.length=old.length+J:=(by rw[hold,aN,ah]);have ap:s.out.length<b↔J<b:=by
    rcases ai with ai|ai
    ·rw[ai,pE]at ak;omega
    ·omega
   have bg:J<=1048576:=(by have:=D.out;omega);have aj:s.out.drop (s.out.length-b)=st.out.drop (J-b)\/J<b:=by
    by_cases hx:J<b
    ·exact .inr hx
    ·refine .inl ?_;rw[ak,show old.length+J-b=old.length+(J-b) by omega,hold,GK];simp
   have an:=hide ah;by_cases ad:J<b
   ·have j:=l.o;rw[aA (ap.2 ad)]at j;have l:=hide j;have aq:min J 32768=J:=(by omega);rw[aq]at X|-
    go_wp2_with fail;go_ret;rw[l.o];exact⟨rfl,by omega,st,_,e1,C,ae⟩
   ·have j:=l.o;rw[aB (fun hx=>ad (ap.1 hx))]at j;obtain⟨wb,ha,al⟩:=X (by omega);subst ha;have l:=hide j;clear j X;obtain⟨Y,ar⟩:=aP (min J 32768);rw[<-ar];have bk:b<=Y:=(by omega);have bh:Y<=J:=(by omega);have bm:Y<=32768:=(by omega);have be:1<=Y:=(by omega);obtain⟨u,hu⟩:∃u,Y=u+b:=⟨Y-b,by omega⟩
    have bc:IntKind.i64.wrap ((Y:Int)-(b:Int))=(u:Int):=(by rw[dK];omega);have bl:(0:Int)<=(u:Int):=(by omega);have bn:(u:Int)<=(Y:Int):=(by omega);have bf:¬(Y=u):=(by omega);have aw:Y-u=b:=(by omega);have R:(st.out.drop (J-b)).length=b:=(by rw[dX,<-an.o];omega);have W:nI w3.drew wb (J-Y+u) (st.out.drop (J-b)):=fun i hi=>by
     rw[R]at hi;have h9:=al (J-b+i) (by rw[<-an.o];omega);rw[dS]at h9;have e9:J-Y+u+i=J-b+i:=(by omega);rw[e9,kM];exact h9
    have I:=hn;have Q:=VR wb (J-Y+u) b n (st.out.drop (J-b)) w3.drew W R (by omega) (by omega) (by omega) (by omega);have ao:round (st.out.drop (J-b)) n=copied s.out b n:=by
     have h9:=YF s.out b n (by rw[ak];omega);rw[h9];rcases aj with hx|hx
     ·rw[hx]
     ·exact absurd hx ad
    rw[ao]at Q;have HU:=hide hu;clear ar ah W R ao hu;have Z:=kX s.out b n;obtain⟨xs,am⟩:=aP (copied s.out b n);rw[<-am]at Z;have j:=l.o;rw[<-am]at j Q;unfold mM at j;clear am;by_cases ac:s.out.length+xs.length<=s.most
    ·rw[aA ac]at j;have T:=hide j;clear j l;rw[Z]at ac;have af:n<=st.room:=(by have:=e2;omega);go_wp2_with fail
     go_region_held3 (fun _=>True) (exact bT)
      (first|(go_at_call 203;apply Q.mono;rintro e w4 ⟨k',M,N,rfl,H,m,L⟩)|(go_at_call 190;apply(Em d f base N k' M n xs st w4 (C.step0 ((aU (fun _=>False) w3).drew.trans L)).dec m Z (by omega) (by omega) H af D).mono;rintro e w5 ⟨rfl,v',h5,K⟩))
     have r:O w3 w4:=(aU (fun _=>False) w3).drew.trans L;have H5:=hide (((C.step0 r)).put h5 K);have aa:=hide ((ae.trans (fC.step0 r)).trans (fC.xH K));clear h5 K r L m;go_wp2_with fail;go_ret;rw[T.o];refine⟨rfl,v',xs,rfl,?_,au,H5.o,aa.o⟩;rw[aN,Z];exact ac
    ·rw[aB ac]at j;have T:=hide j;clear j l;rw[Z]at ac;have af:s.most-s.out.length=st.room:=(by have:=e2;omega);have ay:st.room<n:=(by have:=e2;omega);by_cases ab:st.room=0
     ·go_wp2_with fail;go_region_held3 (fun _=>True) (exact bT);(first|(go_at_call 203;apply Q.mono;rintro e w4 ⟨k',M,N,rfl,H,m,L⟩)|(go_at_call 190;apply(Gy d f base N k' M n st w4 (C.step0 ((aU (fun _=>False) w3).drew.trans L)).dec (by omega) (by omega) H ab D).mono;rintro e w5 ⟨rfl,h5,K⟩));have r:O w3 w4:=(aU (fun _=>False) w3).drew.trans L;have H5:=hide (((C.step0 r)).put h5 K);have aa:=hide ((ae.trans (fC.step0 r)).trans (fC.xH K));clear h5 K r L m;go_wp2_with fail;go_ret;rw[T.o];refine⟨rfl,by omega,st,q2,?_,H5.o,aa.o⟩;rw[af,ab,uS,bG];exact e1
     ·go_wp2_with fail;go_region_held3 (fun _=>True) (exact bT);(first|(go_at_call 203;apply Q.mono;rintro e w4 ⟨k',M,N,rfl,H,m,L⟩)|(go_at_call 190;apply(Ye d f base N k' M n xs st w4 (C.step0 ((aU (fun _=>False) w3).drew.trans L)).dec m Z (by omega) H (by omega) ay D).mono;rintro e w5 ⟨rfl,v',h5,K⟩));have r:O w3 w4:=(aU (fun _=>False) w3).drew.trans L;have H5:=hide (((C.step0 r)).put h5 K);have aa:=hide ((ae.trans (fC.step0 r)).trans (fC.xH K));go_wp2_with fail;go_ret;rw[T.o,af];exact⟨rfl,by omega,st.add v' (xs.take st.room),q2,e1.add v' _,H5.o,aa.o⟩
def Nz (d f base g off cap z:Nat)(B:aD)(s:GS)(v:aK)(w:aH)(o:dJ w d f base g off cap z B s v)(h2:s.place=2):Calls prog 174 #[E d] w fun e w'=>I8 (uF B s) d f base g off cap z B s w v e w':=by
 obtain⟨st,rfl,k,t,F,e3,M,L,I,G,N,Y⟩:=o.ex;have n:=Y h2;obtain⟨mb,m1,m2,P⟩:=n.sm;have W:=k.src.much;have m:=t.small F o.most;have j:=o.bits;have D:=o.room;unfold uF;cases hr:lC (aI s.ls) B s.p with
 |no x=>
  have S:=oU hr;subst S;apply(Uc d f base g off cap z s.p mb (aI s.ls) B st w k m1 n.sl m2 P.f (pY _) j hr).mono;rintro e w' ⟨rfl,q,i,a⟩;exact⟨rfl,by omega,st,q,t,i,a⟩
 |miss=>
  apply(El d f base g off cap z s.p mb (aI s.ls) B st w k m1 n.sl m2 P.f (pY _) j hr).mono;rintro e w' ⟨rfl,q,i,a⟩;exact⟨rfl,s.last,q,fun _=>rfl,⟨st,rfl,i,t,F,e3,M,L,I,G,N.step a,fun _=>n.step a rfl rfl rfl rfl⟩,a⟩
 |ok c q=>
  have b:=Wd hr;have R:q<=8*B.length:=b.there;have X:=b.lt;have u:=b.aB7 (w:=w) (f:=f) (mb:=mb) m2 P.f (pY _);rw[<-n.sl]at u;have H:=YS n.sn _ _ b.is;dsimp only;by_cases l:c<256
  ·rw[aA l];unfold mM;by_cases y:s.out.length+[c].length<=s.most
   ·rw[aA y];simp only[oH]at y;apply(Bw d f base g off cap z s.p (q-s.p) mb c (aI s.ls).tab B st w k m1 u (by omega) m (by omega) l).mono;rintro e w' ⟨rfl,K,i,a⟩;rw[show s.p+(q-s.p)=q by omega]at i;exact⟨rfl,K,o.after i a rfl (t.add K _) (by simp only[iH.add,aN,oH];omega) e3 M L I G (N.step a) (fun _=>n.step a rfl rfl rfl rfl) rfl (by simp;omega) o.left R,a⟩
   ·rw[aB y];simp only[oH]at y;apply(Ei d f base g off cap z s.p (q-s.p) mb c (aI s.ls).tab B st w k m1 u (by omega) m (by omega) l).mono;rintro e w' ⟨rfl,i,a⟩;refine⟨rfl,by omega,st,_,?_,i,a⟩;have:s.most-s.out.length=0:=(by omega);rw[this,uS,bG];exact t
  ·rw[aB l];by_cases Q:c=256
   ·rw[aA Q];apply(Oe d f base g off cap z s.p (q-s.p) mb c (aI s.ls).tab B st w k m1 u (by omega) Q).mono;rintro e w' ⟨rfl,i,a⟩;rw[show s.p+(q-s.p)=q by omega]at i;exact⟨rfl,st.v,M5 o rfl i a R t F M L I G N,a⟩
   ·rw[aB Q];refine Fg d f base g off cap z s.p mb c q (aI s.ls) B st w _ k m1 n.sl m2 P.f (pY _) j hr (by omega) H ?_;intro w1 J C;apply(YV d f base g off cap z q c B s st w1 J R (by omega) H t F o.most D (n.step C rfl rfl rfl rfl)).mono;intro e w' hp;cases hg:gCopy B s c q with
    |go s'=>
     rw[hg]at hp;obtain⟨rfl,K,xs,hs,T,Z,i,a⟩:=hp;have r:=C.trans a;refine⟨.inl ⟨0,rfl⟩,rfl,K,?_,r⟩;rw[hs];exact o.after i r rfl (t.add K xs) (by rw[aN]at T |-;simp only[iH.add];omega) e3 M L I G (N.step r) (fun _=>n.step r rfl rfl rfl rfl) rfl T o.left Z
    |no x out=>
     rw[hg]at hp;obtain⟨rfl,S,st',q',i,a,r⟩:=hp;exact⟨.inl ⟨x,rfl⟩,rfl,S,st',q',i,a,C.trans r⟩
    |miss=>
     rw[hg]at hp;obtain⟨rfl,q',i,a⟩:=hp;have r:=C.trans a;exact⟨.inr rfl,rfl,s.last,q',fun _=>rfl,⟨st,rfl,i,t,F,e3,M,L,I,G,N.step r,fun _=>n.step r rfl rfl rfl rfl⟩,r⟩
def Ends (e:Ending):Prop:=(∃x:Nat,e= .returned (V (x:Nat)))\/e=lost
def Ml (d f base g off cap z p:Nat)(B:aD)(st:iH)(w:aH)(h:mF w d f base g off cap z B st p)(hp:p<=8*B.length)(c:8*B.length<p+1):Calls prog 175 #[E d] w fun e w'=>e=lost/\∃q,mF w' d f base g off cap z B st q/\fC d f w st.v w' st.v:=by obtain⟨j,_⟩:=h.dec.cell;have a:=h.src.much;go_enter func175,ntmps175;go_wp2_with fail;apply(yN f B.length cap p _ w h.feed a (by omega) (by omega)).mono;rintro e w1 ⟨rfl,m,rfl⟩;have hs:O w (w.drewN m):=(aU _ _).drewN m;have i:=hide (h.step0 hs);have b:=hide (fC.step0 (d:=d) (f:=f) (v:=st.v) hs);go_wp2_with fail;exact⟨rfl,rfl,_,i.o,b.o⟩
def Jr (d f base g off cap z p:Nat)(B:aD)(st:iH)(w:aH)(h:mF w d f base g off cap z B st p)(hp:p<8*B.length)(m:8*B.length<p+3):Calls prog 175 #[E d] w fun e w'=>e=lost/\∃q l,mF w' d f base g off cap z B { st with last:=l } q/\fC d f w st.v w' st.v:=by obtain⟨u,_⟩:=h.dec.cell;go_enter func175,ntmps175;go_wp2_with fail;apply(sW f g off cap z p B w h.feed h.src (by omega)).mono;rintro e w1 ⟨rfl,a⟩;have i:=h.fed a;obtain⟨_,_,_,_,t,_⟩:=i.dec.cell;have s:=i.dec.free 5;go_wp2_with fail;obtain⟨last,n⟩:=aP (((bK B p:Int)==1));rw[<-n];have c:mF (w1.setCell (U d 5) (.bool last)) d f base g off cap z B { st with last:=last } (p+1):=X6 i;have j:fC d f w st.v (w1.setCell (U d 5) (.bool last)) st.v:=(fC.fed a).trans (fC.setCell d f w1 st.v 5 _);generalize w1.setCell (U d 5) (.bool last)=w2 at*;apply(dL f g off cap z (p+1) 2 B w2 c.feed c.src c.af9.f (by omega) (by omega) (by omega)).mono;rintro e w3 ⟨rfl,b⟩;have r:=hide (c.fed b);have k:=hide (j.trans (fC.fed b));go_wp2_with fail;exact⟨rfl,rfl,_,_,r.o,k.o⟩
def ap9 (d f base g off cap z p:Nat)(B:aD)(st:iH)(w:aH)(h:mF w d f base g off cap z B st p)(R:p+3<=8*B.length)(Q:Ending->aH->Prop)(L:aG B (p+1) 2=0->∀w3,mF w3 d f base g off cap z B { st with last:=bK B p==1 } (p+1+2)->fC d f w st.v w3 st.v->Calls prog 193 #[E d] w3 fun e w'=>Ends e/\Q e w')(c:aG B (p+1) 2=1->∀w3,mF w3 d f base g off cap z B { st with last:=bK B p==1 } (p+1+2)->fC d f w st.v w3 st.v->Calls prog 194 #[E d] w3 fun e w'=>Ends e/\Q e w')(b:aG B (p+1) 2=2->∀w3,mF w3 d f base g off cap z B { st with last:=bK B p==1 } (p+1+2)->fC d f w st.v w3 st.v->Calls prog 195 #[E d] w3 fun e w'=>Ends e/\Q e w')(l:aG B (p+1) 2=3->∀w3,mF w3 d f base g off cap z B { st with last:=bK B p==1 } (p+1+2)->fC d f w st.v w3 st.v->Q (.returned (V 5)) w3):Calls prog 175 #[E d] w fun e w'=>Q e w':=by
 have D:=hide L;have u:=hide c;have n:=hide b;have m:=hide l;clear L c b l;obtain⟨W,_⟩:=h.dec.cell;have J:=hide h;clear h;go_enter func175,ntmps175;go_wp2_with fail;apply(sW f g off cap z p B w J.o.feed J.o.src (by omega)).mono;rintro e w1 ⟨rfl,i⟩;have c:=J.o.fed i;obtain⟨_,_,_,_,T,_⟩:=c.dec.cell;have P:=c.dec.free 5;have I:=hide i;have N:=hide c;clear c i;have C:((bK B p:Int)==1)=(bK B p==1):=by
  have:=kQ B p;have G:bK B p=0\/bK B p=1:=by omega
  rcases G with G|G<;>rw[G]<;>rfl
 obtain⟨last,M⟩:=aP (bK B p==1);rw[<-M]at C D u n m;clear M;go_wp2_with fail;have b:mF (w1.setCell (U d 5) (.bool last)) d f base g off cap z B { st with last:=last } (p+1):=X6 N.o;have t:fC d f w st.v (w1.setCell (U d 5) (.bool last)) st.v:=(fC.fed I.o).trans (fC.setCell d f w1 st.v 5 _);generalize w1.setCell (U d 5) (.bool last)=w2 at*;apply(dO f g off cap z (p+1) 2 B w2 b.feed b.src b.af9.f (by omega) (by omega)).mono;rintro e w3 ⟨rfl,j⟩;have l:=b.fed j;have y:=t.trans (fC.fed j);have a:=hide (show mF w3 d f base g off cap z B { st with last:=last } (p+1+2)/\fC d f w st.v w3 st.v from⟨l,y⟩);obtain⟨r,k⟩:=aP (aG B (p+1) 2);have S:r<4:=by rw[k];exact bO B (p+1) 2
 rw[<-k]at D u n m|-
 clear b t l y j C k;have K:r=0\/r=1\/r=2\/r=3:=by omega
 rcases K with rfl|rfl|rfl|rfl;focus
  have H:=hide (D.o rfl w3 a.o.1 a.o.2)
 rotate_left;focus
  have H:=hide (u.o rfl w3 a.o.1 a.o.2)
 rotate_left;focus
  have H:=hide (n.o rfl w3 a.o.1 a.o.2)
 rotate_left
 ·have s:=hide (m.o rfl w3 a.o.1 a.o.2);clear D u n m a;go_wp2_with fail;exact s.o
 all_goals
  clear D u n m a;go_wp2_with fail;apply H.o.mono;rintro e w4 ⟨⟨x,rfl⟩|rfl,F⟩
  ·have s:=hide F;clear F;go_wp2_with fail;exact s.o
  ·have s:=hide F;clear F;go_wp2_with fail;exact⟨rfl,s.o⟩
def Vu (D:d9)(B:aD)(n:Nat):∀k p row r q,row.length<=n->iC D B n k p row= .ok r q->r.length<=n:=by
 intro k;induction k with
 |zero=>intro p row r q a h;simp only[iC,R.ok.injEq]at h;obtain⟨rfl,_⟩:=h;exact a
 |succ k ih=>
  intro p row r q a h;rw[iC]at h;split at h
  ·simp only[R.ok.injEq]at h;obtain⟨rfl,_⟩:=h;exact a
  ·split at h
   ·simp at h
   ·simp at h
   ·split at h
    ·simp at h
    ·split at h
     ·simp at h
     ·simp at h
     ·split at h
      ·simp at h
      ·exact ih _ _ _ _ (by rw[aN,dQ];omega) h
def Gf {a:aD×aD}(h:bW B p= .ok a q):a.1.length<=1000/\a.2.length<=1000:=by
 unfold bW at h;split at h
 ·dsimp only at h;split at h
  ·simp at h
  ·split at h
   ·split at h
    ·split at h
     ·rename_i row e b;have c:=Vu _ _ _ _ _ _ _ _ (by simp) b;unfold pI at h;split at h
      ·simp only[R.ok.injEq]at h;obtain⟨rfl,_⟩:=h;simp only[dF,dX];omega
      ·simp at h
     ·simp at h
     ·simp at h
    ·simp at h
   ·simp at h
 ·simp at h
def aa2 (d f base g off cap z:Nat)(B:aD)(s:GS)(v:aK)(w:aH)(k:dJ w d f base g off cap z B s v)(R:s.place≠1)(o:s.place≠2):Calls prog 175 #[E d] w fun e w'=>I8 (kL B s) d f base g off cap z B s w v e w':=by
 obtain⟨st,rfl,D,n,r,e3,W,G,C,y,F,Z⟩:=k.ex;have t:=k.bits;unfold kL;by_cases K:s.p+3<=8*B.length;case neg=>
  rw[aB K];by_cases Y:s.p+1<=8*B.length
  ·apply(Jr d f base g off cap z s.p B st w D (by omega) (by omega)).mono;rintro e w' ⟨rfl,q,l,j,c⟩;exact⟨rfl,l,q,fun h=>by omega,⟨{ st with last:=l },rfl,j,n.same rfl rfl,r,e3,rfl,G,C,y,F.step c,fun h=>absurd h o⟩,c⟩
  ·apply(Ml d f base g off cap z s.p B st w D t (by omega)).mono;rintro e w' ⟨rfl,q,j,c⟩;exact⟨rfl,s.last,q,fun h=>by omega,⟨_,rfl,j,n,r,e3,W,G,C,y,F.step c,fun h=>absurd h o⟩,c⟩
 rw[aA K];refine ap9 d f base g off cap z s.p B st w D K _ ?_ ?_ ?_ ?_
 ·intro hk w3 j b;rw[aA hk];by_cases m:(s.p+3+7)/8*8+32<=8*B.length
  ·rw[aA m];have Q:=bO B ((s.p+3+7)/8*8) 16;by_cases I:aG B ((s.p+3+7)/8*8+16) 16=65535-aG B ((s.p+3+7)/8*8) 16
   ·rw[aA I];apply(VW d f base g off cap z (s.p+1+2) ((s.p+3+7)/8*8) _ B _ w3 j rfl m rfl I (by omega)).mono;rintro e w' ⟨rfl,c,a⟩;have i:=b.trans a;exact⟨.inl ⟨0,rfl⟩,rfl,st.v,k.after c i rfl (n.same rfl rfl) r rfl rfl rfl C y (F.step i) (fun h=>by simp at h) rfl k.room (by dsimp only;omega) m,i⟩
   ·rw[aB I];apply(VI d f base g off cap z (s.p+1+2) ((s.p+3+7)/8*8) _ _ B _ w3 j rfl m rfl rfl I (by omega)).mono;rintro e w' ⟨rfl,q,c,a⟩;exact⟨.inl ⟨6,rfl⟩,rfl,by omega,{ st with last:=bK B s.p==1 },q,n.same rfl rfl,c,b.trans a⟩
  ·rw[aB m];apply(NJ d f base g off cap z (s.p+1+2) ((s.p+3+7)/8*8) B _ w3 j rfl (by omega) (by omega)).mono;rintro e w' ⟨rfl,q,c,a⟩;have i:=b.trans a;exact⟨.inr rfl,rfl,(bK B s.p==1),q,fun h=>by omega,⟨{ st with last:=bK B s.p==1 },rfl,c,n.same rfl rfl,r,e3,rfl,G,C,y,F.step i,fun h=>absurd h o⟩,i⟩
 ·intro hk w3 j b;rw[aB (by omega),aA hk];apply(VY d f base g off cap z (s.p+1+2) B _ w3 j (F.step b) C y).mono;rintro e w' ⟨rfl,st',a1,a2,M,L,N,J,c,H,T,a⟩;have i:=b.trans a;refine⟨.inl ⟨0,rfl⟩,rfl,st.v,k.after (st:=st') c i a1 (n.same a2.1 a2.2) (by rw[M];exact r) L N (J.trans G) ?_ ?_ T (fun _=>H) rfl k.room k.left (by dsimp only;omega),i⟩
  ·obtain⟨mb,m1,_⟩:=H.sm;exact⟨_,m1⟩
  ·obtain⟨x,m1,_⟩:=H.dm;exact⟨_,m1⟩
 ·intro hk w3 j b;rw[aB (by omega),aB (by omega),aA hk];apply(ZT d f base g off cap z (s.p+1+2) B _ w3 j (by omega) (k.order.step b.step k.aw7) k.zero.2 C y).mono;rw[show s.p+1+2=s.p+3 from rfl];intro e w' hp;cases hr:bW B (s.p+3)with
  |ok ab q=>
   rw[hr]at hp;obtain⟨rfl,st',a1,a2,M,L,N,J,X,c,H,a⟩:=hp;have i:=b.trans a;have S:=SI hr;have P:=Gf hr;have u:=H P.1 P.2;refine⟨.inl ⟨0,rfl⟩,rfl,st.v,k.after (st:=st') c i a1 (n.same a2.1 a2.2) (by rw[M];exact r) L N (J.trans G) ?_ ?_ (by rw[X];exact F.step i) (fun _=>u) rfl k.room k.left S.2,i⟩
   ·obtain⟨mb,m1,_⟩:=u.sm;exact⟨_,m1⟩
   ·obtain⟨x,m1,_⟩:=u.dm;exact⟨_,m1⟩
  |no x=>
   rw[hr]at hp;obtain⟨rfl,q,c,a⟩:=hp;exact⟨.inl ⟨x,rfl⟩,rfl,zL hr,{ st with last:=bK B s.p==1 },q,n.same rfl rfl,c,b.trans a⟩
  |miss=>
   rw[hr]at hp;obtain⟨rfl,q,c,a⟩:=hp;have i:=b.trans a;exact⟨.inr rfl,rfl,(bK B s.p==1),q,fun h=>by omega,⟨{ st with last:=bK B s.p==1 },rfl,c,n.same rfl rfl,r,e3,rfl,G,C,y,F.step i,fun h=>absurd h o⟩,i⟩
 ·intro hk w3 j b;rw[aB (by omega),aB (by omega),aB (by omega)];exact⟨rfl,by omega,{ st with last:=bK B s.p==1 },_,n.same rfl rfl,j,b⟩
def Ya (d:Nat)(place:Nat)(w:aH)(Q:Ending->aH->Prop)(m:w.cell? (U d 4)=some (V place))(k:place=1->Calls prog 173 #[E d] w fun e w'=>Ends e/\Q e w')(l:place=2->Calls prog 174 #[E d] w fun e w'=>Ends e/\Q e w')(j:place≠1->place≠2->Calls prog 175 #[E d] w fun e w'=>Ends e/\Q e w'):Calls prog 151 #[E d] w fun e w'=>Q e w':=by
 by_cases c:place=1
 ·have b:=hide (k c);subst c;go_enter func151,ntmps151;go_wp2_with fail;apply b.o.mono;rintro e w4 ⟨⟨x,rfl⟩|rfl,a⟩
  ·go_wp2_with fail;exact a
  ·go_wp2_with fail;exact⟨rfl,a⟩
 by_cases i:place=2;focus
  have b:=hide (l i);subst i
 rotate_left;focus
  have b:=hide (j c i);have b1:((place:Int)==1)=false:=aX.2 (by omega);have b2:((place:Int)==2)=false:=aX.2 (by omega)
 all_goals
  go_enter func151,ntmps151;go_wp2_with fail;apply b.o.mono;rintro e w4 ⟨⟨x,rfl⟩|rfl,a⟩
  ·go_wp2_with fail;exact a
  ·go_wp2_with fail;exact⟨rfl,a⟩
def I8.ends {r:G}{s:GS}{e:Ending}(h:I8 r d f base g off cap z B s w v e w'):Ends e:=by
 cases r with
 |go s'=>obtain⟨rfl,_⟩:=h;exact .inl ⟨0,rfl⟩
 |no x out=>obtain⟨rfl,_⟩:=h;exact .inl ⟨x,rfl⟩
 |miss=>obtain⟨rfl,_⟩:=h;exact .inr rfl
def Xm (d f base g off cap z:Nat)(B:aD)(s:GS)(v:aK)(w:aH)(j:dJ w d f base g off cap z B s v):Calls prog 151 #[E d] w fun e w'=>I8 (bM B s) d f base g off cap z B s w v e w':=by
 obtain⟨st,l,k,m,n,e3,_⟩:=j.ex;have i:=k.dec.cell.2.2.2.1;rw[e3]at i;refine Ya d s.place w _ i ?_ ?_ ?_
 ·intro a;have b:bM B s=nO B s:=by unfold bM;rw[aA a]
  rw[b];exact(UU d f base g off cap z B s v w j a).mono fun e w' h=>⟨h.ends,h⟩
 ·intro c;have b:bM B s=uF B s:=by unfold bM;rw[aB (by omega),aA c]
  rw[b];exact(Nz d f base g off cap z B s v w j c).mono fun e w' h=>⟨h.ends,h⟩
 ·intro a c;have b:bM B s=kL B s:=by unfold bM;rw[aB a,aB c]
  rw[b];exact(aa2 d f base g off cap z B s v w j a c).mono fun e w' h=>⟨h.ends,h⟩
def MC (a b c:aK)(w:aH):CallsD prog 154 #[a,b,c] .returning w fun e i w'=>e= .returned (.tuple #[])/\i= .returning/\w'=w:=by refine callsD_of_wpS func154 rfl fun k l j=> ?_;apply wpS_seq;apply wpS_region;simp[wpOpsS,go_sem,recoverD,j,ntmps154,Exit.thenS];refine wpS_of_wp ?_;go_wp2;cases k;simp_all [bodyPostS,results,results154]
def isMissing (w:aH):(Instr.typeAssert (.iface 197 (.agg #[])) 20 197 true).run prog w= .ok (.tuple #[.agg #[], .bool true]) w:=by kernel_rfl
def MI (R f p q:Nat)(s:aK)(x:Int)(w:aH)(m:w.cell? (U R 0)=some (E f))(D:w.cell? ⟨R+1+1,0,none⟩=some (V p))(b:w.heap[f]? =some (.cells #[s,V q,V z] 91 (0,0)))(a:w.heap[R+1]? =some (.cells #[V x] 43 (0,0)))(c:¬f=R+1):CallsD prog 154 #[.pointer (some ⟨R+1+1,0,none⟩),E R, .pointer (some ⟨R+1,0,none⟩)] (.panicking [{ v:=missing,recovered:=false }]) w fun e u w'=>e= .returned (.tuple #[])/\u= .panicking [{ v:=missing,recovered:=true }]/\Step (fun k=>k=f\/k=R+1) w w'/\w'.heap[f]? =some (.cells #[s,V p,V z] 91 (0,0))/\w'.heap[R+1]? =some (.cells #[V 3] 43 (0,0)):=by
 have hs:∀o,O w (w.alloc o):=fun o=>(aU _ _).alloc o;have J:∀o,(w.alloc o).cell? (U R 0)=some (E f):=fun o=>(hs o).cell m (fun x=>x);have L:∀o,(w.alloc o).cell? ⟨R+1+1,0,none⟩=some (V p):=fun o=>(hs o).cell D (fun x=>x);have c1:∀o,(w.alloc o).cell? (U f 1)=some (V q):=fun o=>(fV ((hs o).at_ b (fun x=>x))).2.1;have n:∀o,(w.alloc o).frozen? (U f 1)=false:=fun o=>(fV ((hs o).at_ b (fun x=>x))).2.2.2.1;have r0:∀o,(w.alloc o).cell? ⟨R+1,0,none⟩=some (V x):=fun o=>jO ((hs o).at_ a (fun x=>x));have H:∀o,(w.alloc o).frozen? ⟨R+1,0,none⟩=false:=fun o=>free_of_one ((hs o).at_ a (fun x=>x));have C:=aO b;have y:=aO a;have N:=(fV b).2.1;have F:=(fV b).2.2.2.1;have M:=jO a;have G:=free_of_one a;refine callsD_of_wpS func154 rfl fun K I r=> ?_;apply wpS_seq;apply wpS_region;simp[wpOpsS,go_sem,recoverD,r,ntmps154,Exit.thenS];refine wpS_of_wp ?_;unfold missing;have t:=isMissing;go_wp2_with fail;have j:=aV b 1 (V p);have l:=(show(w.setCell (U f 1) (V p)).heap[R+1]? =w.heap[R+1]? from cZ _ _ _ _ (fun x=>c x.symm)).trans a;refine⟨rfl,_,rfl, .tuple #[],by simp[results,results154],rfl,rfl,?_,?_,?_⟩
 ·exact(((aU (fun k=>k=f\/k=R+1) w).setCell (p:=(U f 1)) (.inl rfl) _).setCell (p:=⟨R+1,0,none⟩) (.inr rfl) _).alloc _
 ·have i:=(show((w.setCell (U f 1) (V p)).setCell ⟨R+1,0,none⟩ (V 3)).heap[f]? =(w.setCell (U f 1) (V p)).heap[f]? from cZ _ _ _ _ c).trans j;refine(dG _ _ _ (aO i)).trans (i.trans ?_);simp
 ·have i:=aV l 0 (V 3);refine(dG _ _ _ (aO i)).trans (i.trans ?_);simp
structure JX (f p z:Nat)(s:aK)(w:aH)(Post:aH->Ending->aH->Prop)(e:Ending)(w'':aH):Prop where
  ex:∃w1 e1 w',O w w1/\w1.heap.size=w.heap.size+3/\Post w1 e1 w'/\
    ((∃x:Nat,e1= .returned (V (x:Nat))/\e= .returned (V (x:Nat))/\w''=w'.setCell ⟨w.heap.size+1,0,none⟩ (V (x:Nat)))\/
     (e1=lost/\e= .returned (V 3)/\Step (fun k=>k=f\/k=w.heap.size+1) w' w''/\w''.heap[f]? =some (.cells #[s,V (p:Nat),V (z:Nat)] 91 (0,0))))
def Oj (f d p:Nat)(s:aK)(w:aH)(b:aH->Ending->aH->Prop)(u:w.heap[f]? =some (.cells #[s,V p,V z] 91 (0,0)))(m:∀w1,O w w1->w1.heap.size=w.heap.size+3->w1.heap[w.heap.size+1]? =some (.cells #[V 0] 43 (0,0))->Calls prog 151 #[E d] w1 fun e w'=>Ends e/\b w1 e w')(i:∀w1 e w',O w w1->w1.heap.size=w.heap.size+3->b w1 e w'->w'.heap[w.heap.size]? =w1.heap[w.heap.size]? /\w'.heap[w.heap.size+1]? =w1.heap[w.heap.size+1]? /\w'.heap[w.heap.size+1+1]? =w1.heap[w.heap.size+1+1]? /\∃q:Nat,w'.heap[f]? =some (.cells #[s,V q,V z] 91 (0,0))):Calls prog 125 #[E f, .func (.func 151) #[E d] #[]] w fun e l=>JX f p z s w b e l:=by
 obtain⟨_,c1,_,_,_⟩:=fV u;have t:=aO u;have M:=ar9;go_enter_defers func125,ntmps125;go_wp2_with fail;have c:O w (((w.alloc (.cells #[E f] 72)).alloc (.cells #[V 0] 43)).alloc (.cells #[V p] 3)):=(((aU _ _).alloc _).alloc _).alloc _;have j:(((w.alloc (.cells #[E f] 72)).alloc (.cells #[V 0] 43)).alloc (.cells #[V p] 3)).heap.size=w.heap.size+3:=by simp
 have o:(((w.alloc (.cells #[E f] 72)).alloc (.cells #[V 0] 43)).alloc (.cells #[V p] 3)).heap[w.heap.size+1]? =some (.cells #[V 0] 43 (0,0)):=(dG _ _ _ (by simp)).trans (heap_alloc2_new _ _ _);have n:(((w.alloc (.cells #[E f] 72)).alloc (.cells #[V 0] 43)).alloc (.cells #[V p] 3)).heap[w.heap.size]? =some (.cells #[E f] 72 (0,0)):=(dG _ _ _ (by simp;omega)).trans ((dG _ _ _ (by simp)).trans (aR _ _));have r:(((w.alloc (.cells #[E f] 72)).alloc (.cells #[V 0] 43)).alloc (.cells #[V p] 3)).heap[w.heap.size+1+1]? =some (.cells #[V p] 3 (0,0)):=by
  have K:=aR ((w.alloc (.cells #[E f] 72)).alloc (.cells #[V 0] 43)) (.cells #[V p] 3);simpa using K
 generalize(((w.alloc (.cells #[E f] 72)).alloc (.cells #[V 0] 43)).alloc (.cells #[V p] 3))=w1 at*;apply(m w1 c j o).mono;rintro e w2 ⟨⟨x,rfl⟩|rfl,a⟩
 ·have y:=(i w1 _ w2 c j a).2.1.trans o;have r0:=jO y;have N:=free_of_one y;go_wp2_with fail;refine leaves_cons (f:=154) (args:=#[.pointer (some ⟨w.heap.size+1+1,0,none⟩),E w.heap.size, .pointer (some ⟨w.heap.size+1,0,none⟩)]) (by simp) (by simp[go_sem]) ?_;apply(MC _ _ _ _).mono;rintro e J l ⟨rfl,rfl,rfl⟩;have k:JX f p z s w b (.returned (V x)) (w2.setCell ⟨w.heap.size+1,0,none⟩ (V x)):=⟨⟨w1,_,w2,c,j,a, .inl ⟨x,rfl,rfl,rfl⟩⟩⟩
  refine⟨V x,?_,k⟩;simp[results,results125,go_sem,r0]
 ·obtain⟨b0,b1,b2,q,G⟩:=i w1 _ w2 c j a;have r0:=jO (b0.trans n);have F:=jO (b2.trans r);have D:=b1.trans o;go_wp2_with fail;refine leaves_cons (f:=154) (args:=#[.pointer (some ⟨w.heap.size+1+1,0,none⟩),E w.heap.size, .pointer (some ⟨w.heap.size+1,0,none⟩)]) (by simp) (by simp[go_sem]) ?_;apply(MI w.heap.size f p q s 0 w2 r0 F G D (by omega)).mono;rintro e J l ⟨rfl,rfl,H,I,L⟩;have C:=jO L;have k:JX f p z s w b (.returned (V 3)) l:=⟨⟨w1,_,w2,c,j,a, .inr ⟨rfl,rfl,H,I⟩⟩⟩
  refine⟨V 3,?_,k⟩;simp[results,results125,go_sem,C]
def SV (f d p:Nat)(s:aK)(w:aH)(b:aH->Ending->aH->Prop)(u:w.heap[f]? =some (.cells #[s,V p,V z] 91 (0,0)))(m:∀w1,O w w1->w1.heap.size=w.heap.size+3->w1.heap[w.heap.size+1]? =some (.cells #[V 0] 43 (0,0))->Calls prog 124 #[E d] w1 fun e w'=>Ends e/\b w1 e w')(i:∀w1 e w',O w w1->w1.heap.size=w.heap.size+3->b w1 e w'->w'.heap[w.heap.size]? =w1.heap[w.heap.size]? /\w'.heap[w.heap.size+1]? =w1.heap[w.heap.size+1]? /\w'.heap[w.heap.size+1+1]? =w1.heap[w.heap.size+1+1]? /\∃q:Nat,w'.heap[f]? =some (.cells #[s,V q,V z] 91 (0,0))):Calls prog 125 #[E f, .func (.func 124) #[E d] #[]] w fun e l=>JX f p z s w b e l:=by
 obtain⟨_,c1,_,_,_⟩:=fV u;have t:=aO u;have M:=ar9;go_enter_defers func125,ntmps125;go_wp2_with fail;have c:O w (((w.alloc (.cells #[E f] 72)).alloc (.cells #[V 0] 43)).alloc (.cells #[V p] 3)):=(((aU _ _).alloc _).alloc _).alloc _;have j:(((w.alloc (.cells #[E f] 72)).alloc (.cells #[V 0] 43)).alloc (.cells #[V p] 3)).heap.size=w.heap.size+3:=by simp
 have o:(((w.alloc (.cells #[E f] 72)).alloc (.cells #[V 0] 43)).alloc (.cells #[V p] 3)).heap[w.heap.size+1]? =some (.cells #[V 0] 43 (0,0)):=(dG _ _ _ (by simp)).trans (heap_alloc2_new _ _ _);have n:(((w.alloc (.cells #[E f] 72)).alloc (.cells #[V 0] 43)).alloc (.cells #[V p] 3)).heap[w.heap.size]? =some (.cells #[E f] 72 (0,0)):=(dG _ _ _ (by simp;omega)).trans ((dG _ _ _ (by simp)).trans (aR _ _));have r:(((w.alloc (.cells #[E f] 72)).alloc (.cells #[V 0] 43)).alloc (.cells #[V p] 3)).heap[w.heap.size+1+1]? =some (.cells #[V p] 3 (0,0)):=by
  have K:=aR ((w.alloc (.cells #[E f] 72)).alloc (.cells #[V 0] 43)) (.cells #[V p] 3);simpa using K
 generalize(((w.alloc (.cells #[E f] 72)).alloc (.cells #[V 0] 43)).alloc (.cells #[V p] 3))=w1 at*;apply(m w1 c j o).mono;rintro e w2 ⟨⟨x,rfl⟩|rfl,a⟩
 ·have y:=(i w1 _ w2 c j a).2.1.trans o;have r0:=jO y;have N:=free_of_one y;go_wp2_with fail;refine leaves_cons (f:=154) (args:=#[.pointer (some ⟨w.heap.size+1+1,0,none⟩),E w.heap.size, .pointer (some ⟨w.heap.size+1,0,none⟩)]) (by simp) (by simp[go_sem]) ?_;apply(MC _ _ _ _).mono;rintro e J l ⟨rfl,rfl,rfl⟩;have k:JX f p z s w b (.returned (V x)) (w2.setCell ⟨w.heap.size+1,0,none⟩ (V x)):=⟨⟨w1,_,w2,c,j,a, .inl ⟨x,rfl,rfl,rfl⟩⟩⟩
  refine⟨V x,?_,k⟩;simp[results,results125,go_sem,r0]
 ·obtain⟨b0,b1,b2,q,G⟩:=i w1 _ w2 c j a;have r0:=jO (b0.trans n);have F:=jO (b2.trans r);have D:=b1.trans o;go_wp2_with fail;refine leaves_cons (f:=154) (args:=#[.pointer (some ⟨w.heap.size+1+1,0,none⟩),E w.heap.size, .pointer (some ⟨w.heap.size+1,0,none⟩)]) (by simp) (by simp[go_sem]) ?_;apply(MI w.heap.size f p q s 0 w2 r0 F G D (by omega)).mono;rintro e J l ⟨rfl,rfl,H,I,L⟩;have C:=jO L;have k:JX f p z s w b (.returned (V 3)) l:=⟨⟨w1,_,w2,c,j,a, .inr ⟨rfl,rfl,H,I⟩⟩⟩
  refine⟨V 3,?_,k⟩;simp[results,results125,go_sem,C]
def Fe {st:iH}(a:mF w d f base g off cap z B st q)(b:w.heap[b1]? =some (.cells A 43 (0,0))):d≠b1/\f≠b1/\(∀k,st.v.ownBlock=some k->k≠b1)/\(∀mb M,TabAt w mb M->mb≠b1)/\(∀i j,w.heap[i]? =some (.cells j 125 (0,0))->i≠b1):=by
 refine⟨fun x=>by have:=a.dec.blk;rw[x,b]at this;simp at this,fun x=>by have:=a.feed;rw[x,b]at this;simp at this,fun k hk x=> ?_,fun mb M c x=> ?_,fun i j c x=>by rw[x,b]at c;simp at c⟩
 ·obtain⟨_,⟨e,_⟩|⟨m,_,_,e,_,hh,_⟩⟩:=a.dec.own
  ·rw[e]at hk;simp[Value.ownBlock]at hk
  ·rw[e]at hk;simp only[Value.ownBlock,fH]at hk;rw[hk,x,b]at hh;simp at hh
 ·obtain⟨_,_,_,⟨l,n,hh,_⟩,_⟩:=c;rw[x,b]at hh;simp at hh
def XE {st:iH}(a:mF w d f base g off cap z B st q)(hs:Step (fun k=>k=f\/k=b1) w w')(b:w.heap[b1]? =some (.cells A 43 (0,0)))(c:g≠b1)(e:w'.heap[f]? =some (.cells #[.slice (bE g off B.length) B.length cap,V p,V z] 91 (0,0))):mF w' d f base g off cap z B st p:=by obtain⟨n1,n2,n3,j,i⟩:=Fe a b;exact⟨a.dec.other (hs.block d (aO a.dec.blk) (fun x=>x.elim a.dec.ne n1)) (fun k hk=>hs.block k (a.dec.own.lt k hk).2 (fun x=>x.elim (fun y=>a.dec.yL.2 (y▸hk)) (n3 k hk))) hs.size,e,a.src.step hs (fun x=>x.elim a.af9.f c),a.af9,nM a.glt hs.size⟩
def QA.reset {s:GS}(h:QA w d f base g off cap z B s v q)(hs:Step (fun k=>k=f\/k=b1) w w')(t:w.heap[b1]? =some (.cells A 43 (0,0)))(J:g≠b1)(M:w'.heap[f]? =some (.cells #[.slice (bE g off B.length) B.length cap,V s.p,V z] 91 (0,0)))(W:bL w)(X:4<=d/\4<=f)(R:4<=b1)(i:4<=w.heap.size)(L:s.most<=1048576)(I:s.out.length<=s.most)(Q:s.left<=65535)(hp:s.p<=8*B.length):dJ w' d f base g off cap z B s v:=by
 obtain⟨st,rfl,b,G,H,e3,T,S,N,K,j,P⟩:=h;obtain⟨n1,n2,n3,e,F⟩:=Fe b t;have off:∀k,tK d f st.v k->k≠b1->¬(k=f\/k=b1):=fun k hk hn x=>x.elim hk.f hn;refine⟨⟨st,rfl,XE b hs t J M,G,H,e3,T,S,N,K,?_,fun c=> ?_⟩,W.step hs (fun k hk x=>by rcases x with x|x<;>omega),X,bB i hs.size,L,I,Q,hp⟩
 ·rcases j with j|⟨m,m1,m2,D,c,o,r,y,n,C⟩
  ·exact .inl j
  ·exact .inr ⟨m,m1,m2,D,hs.at_ c (off m y (F m _ c)),o.step hs (off m1 n (e _ _ o)),r.step hs (off m2 C (e _ _ r)),y,n,C⟩
 ·have a:=P c;obtain⟨mb,a1,a2,u⟩:=a.sm;obtain⟨x,l,b2⟩:=a.dm;refine⟨⟨mb,a1,a2.step hs (off mb u (e _ _ a2)),u⟩,a.sl,⟨x,l,?_⟩,a.dl,a.sn,a.dn⟩;rcases b2 with b2|⟨m2,c1,c2,c3⟩
  ·exact .inl b2
  ·exact .inr ⟨m2,c1,c2.step hs (off m2 c3 (e _ _ c2)),c3⟩
def dJ.toQ {s:GS}(h:dJ w d f base g off cap z B s v):QA w d f base g off cap z B s v s.p:=h.ex
def dJ.place {s:GS}(h:dJ w d f base g off cap z B s v):w.cell? (U d 0)=some (E f)/\w.cell? (U d 4)=some (V s.place)/\w.heap[f]? =some (.cells #[.slice (bE g off B.length) B.length cap,V s.p,V z] 91 (0,0))/\d<w.heap.size/\f<w.heap.size/\g<w.heap.size/\(∀k,v.ownBlock=some k->k<w.heap.size):=by obtain⟨st,rfl,a,i,j,e3,o,e,n,m,l,c⟩:=h.ex;obtain⟨b,_,_,c3,_⟩:=a.dec.cell;rw[e3]at c3;exact⟨b,c3,a.feed,aO a.dec.blk,aO a.feed,a.glt,fun k hk=>(a.dec.own.lt k hk).2⟩
def dJ.step0 {s:GS}(h:dJ w d f base g off cap z B s v)(hs:O w w'):dJ w' d f base g off cap z B s v:=by obtain⟨st,rfl,a,i,j,e3,n,e,m,l,k,c⟩:=h.ex;have b:fC d f w st.v w' st.v:=fC.step0 hs;exact h.after (a.step0 hs) b rfl i j e3 n e m l (k.step b) (fun hp=>(c hp).step b rfl rfl rfl rfl) rfl h.room h.left h.bits
def aC6 (r:G)(d f base g off cap z:Nat)(B:aD)(s:GS)(w:aH)(v:aK)(e:Ending)(w':aH):Prop:=
 match r with
 | .go s'=>e= .returned (V 0)/\∃v',dJ w' d f base g off cap z B s' v'/\fC d f w v w' v'
 | .no x out=>e= .returned (V (x:Nat))/\x≠0/\∃st q,sG st s.taken out/\mF w' d f base g off cap z B st q/\fC d f w v w' st.v
 | .miss=>e= .returned (V 3)/\∃l,(s.place=1\/s.place=2->l=s.last)/\dJ w' d f base g off cap z B { s with last:=l } v/\fC d f w v w' v
def I8.facts {r:G}{s:GS}{e:Ending}(h:I8 r d f base g off cap z B s w v e w'):∃i q st,fC d f w v w' i/\mF w' d f base g off cap z B st q:=by
 cases r with
 |go s'=>obtain⟨_,i,c,b⟩:=h;obtain⟨st,_,a,_⟩:=c.ex;exact⟨i,_,st,b,a⟩
 |no x out=>obtain⟨_,_,st,q,_,c,b⟩:=h;exact⟨_,q,st,b,c⟩
 |miss=>obtain⟨_,l,q,_,⟨st,_,a,_⟩,b⟩:=h;exact⟨_,q,st,b,a⟩
def Pm (d f base g off cap z:Nat)(B:aD)(s:GS)(v:aK)(w:aH)(j:dJ w d f base g off cap z B s v):Calls prog 125 #[E f, .func (.func 151) #[E d] #[]] w fun e w'=>aC6 (bM B s) d f base g off cap z B s w v e w':=by
 obtain⟨_,_,S,Q,W,X,L⟩:=j.place;have P:=j.zlt;have a:∀k,w.heap.size<=k->¬(k=d\/k=f\/v.ownBlock=some k):=fun k hk i=>by
  rcases i with i|i|i
  ·omega
  ·omega
  ·have:=L k i;omega
 apply(Oj f d s.p _ w (fun w1 e w'=>I8 (bM B s) d f base g off cap z B s w1 v e w'/\∃A,w'.heap[w.heap.size+1]? =some (.cells A 43 (0,0))) S ?_ ?_).mono
 ·intro w1 hs H R;apply(Xm d f base g off cap z B s v w1 (j.step0 hs)).mono;intro e w' hp;obtain⟨r,q,st,G,I⟩:=hp.facts;exact⟨hp.ends,hp,_,G.step.at_ R (a _ (by omega))⟩
 ·rintro w1 e w' hs H ⟨hp,_⟩;obtain⟨r,q,st,G,I⟩:=hp.facts;exact⟨G.step.block _ (by omega) (a _ (by omega)),G.step.block _ (by omega) (a _ (by omega)),G.step.block _ (by omega) (a _ (by omega)),q,I.feed⟩
 ·rintro e Z ⟨w1,e1,w',hs,H,⟨hp,A,N⟩,c⟩;have u:∀r,fC d f w1 v w' r->fC d f w v w' r:=fun r n=>⟨(hs.mono (fun _ x=>x.elim)).trans n.step,fun k hk=>(n.own k hk).imp id (fun i=>by omega)⟩
  cases hg:bM B s with
  |go s'=>
   rw[hg]at hp;obtain⟨rfl,r,b,n⟩:=hp;rcases c with⟨x,i,rfl,rfl⟩|⟨i,_⟩
   ·cases i;have t:Step (fun k=>k=f\/k=w.heap.size+1) w' (w'.setCell ⟨w.heap.size+1,0,none⟩ (V 0)):=(aU _ w').setCell (p:=⟨w.heap.size+1,0,none⟩) (.inr rfl) _;have C:Step (·=w.heap.size+1) w' (w'.setCell ⟨w.heap.size+1,0,none⟩ (V 0)):=(aU (·=w.heap.size+1) w').setCell (p:=⟨w.heap.size+1,0,none⟩) rfl _;have M:=b.place.2.2.1;refine⟨rfl,r,b.toQ.reset t N (by omega) (C.at_ M (by omega)) b.order b.zero (by omega) b.zlt b.most b.room b.left b.bits,?_⟩;have o:=u r n;exact⟨o.step.aZ (by simp) _,o.own⟩
   ·cases i
  |no x out=>
   rw[hg]at hp;obtain⟨rfl,J,st,q,b,n,o⟩:=hp;rcases c with⟨y,F,rfl,rfl⟩|⟨F,_⟩
   ·have K:y=x:=by
     have:=F;simp only[Ending.returned.injEq,Value.int.injEq,true_and]at this;omega
    subst K;have t:Step (fun k=>k=f\/k=w.heap.size+1) w' (w'.setCell ⟨w.heap.size+1,0,none⟩ (V (y:Nat))):=(aU _ w').setCell (p:=⟨w.heap.size+1,0,none⟩) (.inr rfl) _;have C:Step (·=w.heap.size+1) w' (w'.setCell ⟨w.heap.size+1,0,none⟩ (V (y:Nat))):=(aU (·=w.heap.size+1) w').setCell (p:=⟨w.heap.size+1,0,none⟩) rfl _;refine⟨rfl,J,st,q,b,XE n t N (by omega) (C.at_ n.feed (by omega)),?_⟩;have m:=u _ o;exact⟨m.step.aZ (by simp) _,m.own⟩
   ·cases F
  |miss=>
   rw[hg]at hp;obtain⟨rfl,l,q,b,n,o⟩:=hp;rcases c with⟨y,F,_⟩|⟨_,rfl,m,Y⟩
   ·cases F
   ·have D:=u _ o;have T:=o.step.size;refine⟨rfl,l,b,QA.reset (s:={ s with last:=l }) n m N (by omega) Y ((j.order.step hs (fun _ _ x=>x)).step o.step j.aw7) j.zero (by omega) (by omega) j.most j.room j.left j.bits,?_⟩;refine⟨⟨m.os.trans D.step.os,m.tape.trans D.step.tape,m.output.trans D.step.output,bB D.step.size m.size,fun k hk hn=> ?_⟩,fun k hk=> .inl hk⟩;exact(m.block k (by have:=D.step.size;omega) (fun x=>x.elim (fun y=>hn (.inr (.inl y))) (fun y=>by omega))).trans (D.step.block k hk hn)
def FX {s s':GS}{xs:aD}(h:mM s xs p= .go s'):s'.taken=s.taken:=by rw[(E9 h).1]
def ME {s s':GS}(h:bM B s= .go s'):s'.taken=s.taken:=by
 unfold bM at h;split at h
 ·unfold nO at h;split at h
  ·simp only[G.go.injEq]at h;rw[<-h];rfl
  ·split at h
   ·exact FX (s:={ s with left:=s.left-1 }) h
   ·simp at h
 ·split at h
  ·unfold uF at h;split at h
   ·simp at h
   ·simp at h
   ·split at h
    ·exact FX h
    ·split at h
     ·simp only[G.go.injEq]at h;rw[<-h];rfl
     ·unfold gCopy at h;split at h
      ·simp at h
      ·simp at h
      ·split at h
       ·simp at h
       ·simp at h
       ·split at h
        ·simp at h
        ·exact FX h
  ·unfold kL at h;split at h
   ·split at h
    ·split at h
     ·split at h
      ·simp only[G.go.injEq]at h;rw[<-h]
      ·simp at h
     ·simp at h
    ·split at h
     ·simp only[G.go.injEq]at h;rw[<-h]
     ·split at h
      ·split at h
       ·simp only[G.go.injEq]at h;rw[<-h]
       ·simp at h
       ·simp at h
      ·simp at h
   ·simp at h
def Xk (d f base g off cap z n e:Nat)(B:aD)(s:GS)(out:aD)(q:Nat)(v:aK)(w:aH)(S:dJ w d f base g off cap z B s v)(R:eZ B n s e out q):Calls prog 117 #[E d] w fun r w'=>r= .returned (V e)/\∃st q',sG st s.taken out/\(e=0->q'=q/\q<=8*B.length)/\mF w' d f base g off cap z B st q'/\fC d f w v w' st.v:=by
 have Y:=ar9;go_enter func117,ntmps117;go_wp2_with fail;go_loopg [4] n (fun k u wr=>∃b v1,dJ wr d f base g off cap z B b v1/\eZ B k b e out q/\fC d f w v wr v1/\b.taken=s.taken);case atStart=>exact⟨s,v,S,R,fC.refl _ _ _ _,rfl⟩
 case round=>
  obtain⟨b,v1,y,X,D,c⟩:=hrel;obtain⟨c0,c3,_⟩:=y.place;have a:=Pm d f base g off cap z B b v1 wr y;rcases X.inv with⟨hp,J,K,C⟩|⟨hp,j,C⟩|⟨hp,j,J,K,C⟩|⟨m,Z,hk,hp,j,k2⟩
  ·rw[hp]at c3;go_wp2_with fail;go_ret;obtain⟨st,G,i,I,_⟩:=y.ex;refine⟨by rw[J];rfl,st,b.p,by rw[K,<-c];exact I,fun _=>⟨C.symm,by rw[C];exact y.bits⟩,i,by rw[G];exact D⟩
  ·have t:((b.place:Int) !=3)=true:=(by rw[jP];omega);rw[j]at a;go_wp2_with fail;apply a.mono;rintro r w2 ⟨rfl,Q,st,q',F,x,H⟩;have P:((e:Int) !=0)=true:=(by rw[jP];omega);have M:=hide (D.trans H);go_wp2_with fail;go_ret;exact⟨rfl,st,q',by rw[<-c];exact F,fun h=>absurd h Q,x,M.o⟩
  ·have t:((b.place:Int) !=3)=true:=(by rw[jP];omega);rw[j]at a;subst J;go_wp2_with fail;apply a.mono;rintro r w2 ⟨rfl,l,F,x,H⟩;have M:=hide (D.trans H);go_wp2_with fail;go_ret;obtain⟨st,G,i,I,_⟩:=x.ex;refine⟨rfl,st,_,by rw[K,<-c];exact I,fun h=>by omega,i,by rw[G];exact M.o⟩
  ·have t:((b.place:Int) !=3)=true:=(by rw[jP];omega);rw[j]at a;have L:=hide ((ME j).trans c);have N:m<gk:=(by omega);go_wp2_with fail;apply a.mono;rintro r w2 ⟨rfl,T,F,x⟩;have W:=hide (D.trans x);go_wp2_with fail;go_roundg m;case measure=>omega
   case rel=>exact⟨_,T,F,k2,W.o,L.o⟩
end Go.Proofs.YtbpahojchgpdnaaGreatDoor
