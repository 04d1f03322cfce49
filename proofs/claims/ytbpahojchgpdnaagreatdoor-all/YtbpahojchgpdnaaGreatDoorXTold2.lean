import Derived.Deep.CutBlock
import Derived.Test.YtbpahojchgpdnaaGreatDoorXTold
set_option maxRecDepth 20000
set_option maxHeartbeats 4000000
set_option linter.all false
namespace Go.Proofs.YtbpahojchgpdnaaGreatDoor
open Go.RowKit Go.dM Go.Proofs.Tryz
variable {w:aH} {b:bY} {c f m:Nat}
def mE:Array aK:=#[V 16,V 17,V 18,V 0,V 8,V 7,V 9,V 6,V 10,V 5,V 11,V 4,V 12,V 3,V 13,V 2,V 14,V 1,V 15]
def az3:(prog.info? 216).map (·.size)=some mE.size:=by kernel_rfl
def Xn:mE.all (·.oneCell')=true:=by kernel_rfl
def Sr (i:Nat)(h:i<19):mE[i]? =some (V (bP[i]?.getD 0:Nat)):=by
 have:i=0\/i=1\/i=2\/i=3\/i=4\/i=5\/i=6\/i=7\/i=8\/i=9\/i=10\/i=11\/i=12\/i=13\/i=14\/i=15\/i=16\/i=17\/i=18:=by omega
 rcases this with rfl|rfl|rfl|rfl|rfl|rfl|rfl|rfl|rfl|rfl|rfl|rfl|rfl|rfl|rfl|rfl|rfl|rfl|rfl<;>rfl
def j6.aw3 {x base F:Nat}{s:XS}(h:j6 w x base b s)(a:Off x s.v F)(i:Nat)(u:aK):j6 (w.setCell (U F i) u) x base b s:=h.step ((aU (fun k=>k=F) w).setCell (p:=(U F i)) rfl u) (fun e=>a.1 e.symm) (fun _ hk e=>a.2 (e▸hk))
structure uM (w wr:aH)(x base:Nat)(b:bY)(s s2:XS):Prop where
 xat:j6 wr x base b s2
 v_:s2.v=s.v
 wrt:dH x w s.v wr s.v
def bI (G:Nat->Nat):aD:=(List.range 19).map G
def cK (G:Nat->Nat):(bI G).length=19:=by simp[bI]
def lG (G:Nat->Nat)(i:Nat)(hi:i<19):(bI G)[i]?.getD 0=G i:=by simp[bI,hi]
def MU {F:Nat}{G:Nat->Nat}(h:bA w F 3 19 (fun i=>nat (G i)))(a:∀i,G i<=15):Ints w F 0 (bI G):=
 ⟨fun i hi=>by rw[cK]at hi;rw[lG G i hi,dS];exact h.cell i hi,fun i=>by
  by_cases hi:i<19
  ·rw[lG G i hi];exact a i
  ·rw[fZ (by rw[cK];omega)];simp,by rw[cK];omega⟩
def av6 (b:bY)(s:XS)(m f c:Nat)(L:aD)(s5:XS):Prop:=
 (s5={ s with at_:=s.at_+14+3*c }/\Well b s m f c/\s.at_+14+3*c<=8*b.size/\L=bD (bytesOf b) (s.at_+14) c/\fF L=true)\/Ill b s s5
def ai9 {s a:XS}{G:Nat->Nat}(h:FW b s m f c c G a)(j:fF (bI G)=true):av6 b s m f c (bI G) a:=by
 rcases h with⟨e,i,d,g⟩|h
 ·exact .inl ⟨e,i,d,by rw[g];rfl,j⟩
 ·exact .inr h
def ap3 {s d:XS}{G:Nat->Nat}(k:s.err=0)(h:FW b s m f c c G d)(o:¬fF (bI G)=true):av6 b s m f c (bI G) { d with err:=if d.err=0 then 7 else d.err }:=by
 rcases h with⟨rfl,l,i,rfl⟩|⟨e,a,j,n,rfl⟩
 ·refine .inr ⟨7,_, .inl ⟨?_,by omega⟩,i,?_⟩
  ·have g:¬fF (bD (bytesOf b) (s.at_+14) c)=true:=o;rw[l.rC,aA i,aB g]
  ·dsimp only;rw[aA k]
 ·refine .inr ⟨e,a,j,n,?_⟩;dsimp only;rw[aB j.ne]
def aw6 (b:bY)(s:XS)(m f:Nat)(row:aD)(s7:XS):Prop:=
 (∃q,q<=8*b.size/\s7={ s with at_:=q }/\row.length=m+f/\bW (bytesOf b) s.at_=pI row m q)\/Ill b s s7
def al1 {s o:XS}{g:Nat}{row:aD}(q:s.err=0)(k:Well b s m f c)(d:s.at_+14+3*c<=8*b.size)(l:fF (bD (bytesOf b) (s.at_+14) c)=true)(h:Ka (aI (bD (bytesOf b) (s.at_+14) c)) b s (m+f) (s.at_+14+3*c) g row o)(i:o.err≠0\/m+f<=row.length):aw6 b s m f row o:=by
 rcases h with⟨p2,hp,rfl,p,t,u⟩|⟨e,a,j,r,rfl⟩
 ·rcases i with i|i
  ·exact absurd q i
  ·refine .inl ⟨p2,hp,rfl,by omega,?_⟩;rw[Mx _ _ _ _ _ _ i]at p;rw[k.rC,aA d,aA l,<-p]
 ·refine .inr ⟨e,a,?_,r,rfl⟩;rcases j with⟨j,n⟩|⟨j,n⟩
  ·exact .inl ⟨by rw[k.rC,aA d,aA l,j],n⟩
  ·exact .inr ⟨by rw[k.rC,aA d,aA l,j],n⟩
def Sn {D:d9}{s o:XS}{n p0 g:Nat}{row:aD}{w':aH}{x base C lb:Nat}{t:aK}{s':XS}(A:o.err=0)(z:row.length<n)(h:Ka D b s n p0 g row o)(hp:ES (oK D (bytesOf b) n o.at_ row) w x base C lb b o row t s' w'):∃d p,g=p+1/\Ka D b s n p0 p d s'/\AJ w' lb x C o.v t d/\d.length<=n/\s'.v=o.v:=by
 rcases h with⟨p2,I,rfl,k,H,r⟩|⟨e,a,G,y,rfl⟩
 ·obtain⟨p,rfl⟩:∃j,g=j+1:=⟨g-1,by omega⟩
  rw[Lm _ _ _ _ _ _ z]at k;obtain⟨B,F,l⟩:=hp;dsimp only at l;cases hrs:oK D (bytesOf b) n p2 row with
  |ok d q=>
   have u:=Ja hrs;rw[hrs]at k l;obtain⟨rfl,i⟩:=l;exact⟨d,p,rfl, .inl ⟨q,B.there,rfl,k,by omega,u.2⟩,i,u.2,rfl⟩
  |no e=>
   have u:=Lc hrs;rw[hrs]at k l;obtain⟨⟨a,y,rfl⟩,i⟩:=l;exact⟨row,p,rfl, .inr ⟨e,a, .inl ⟨k.symm,u⟩,y,rfl⟩,i,r,rfl⟩
  |miss=>
   rw[hrs]at k l;obtain⟨⟨a,y,rfl⟩,i⟩:=l;exact⟨row,p,rfl, .inr ⟨3,a, .inr ⟨k.symm,rfl⟩,y,rfl⟩,i,r,rfl⟩
 ·exact absurd A G.ne
def sM:oL:=by
 intro x base b s w h h0;obtain⟨i0,hi,ka,js,jn⟩:=eD info3;have gm:=h.there;have fn:=gD x base 5 b s w h (by omega);have bm:=jM b s 5;have hm:=(pW b s 5).1;have cs:=hide (az6 b s h0 gm);obtain⟨p1,ex⟩:=aP (cB b s 5);rw[<-ex]at fn bm hm;have dz:=hide ex;have gr:=hide fn;have jj:=hide h;clear ex fn h;go_enter func144,ntmps144;go_wp2_with fail;apply gr.o.mono;rintro r w1 ⟨rfl,hu,gx⟩;have dj:=gD x base 5 b p1.2 w1 hu (by omega);have br:=jM b p1.2 5;have fa:=(pW b p1.2 5).1;obtain⟨p2,fx⟩:=aP (cB b p1.2 5);rw[<-fx]at dj br fa;rw[hm]at dj fa;have ez:=hide fx;have ha:=hide dj;have im:=hide gx;clear fx dj hu gx;go_wp2_with fail;apply ha.o.mono;rintro r w2 ⟨rfl,gj,gt⟩;have eb:=gD x base 4 b p2.2 w2 gj (by omega);have ea:=jM b p2.2 4;have ch:=(pW b p2.2 4).1;obtain⟨p3,fr⟩:=aP (cB b p2.2 4);rw[<-fr]at eb ea ch;rw[fa]at eb ch;have gv:=hide fr;have ih:=hide eb;have ge:=hide (im.o.trans gt);clear fr eb gj gt;go_wp2_with fail;apply ih.o.mono;rintro r w3 ⟨rfl,bl,bp⟩;have ek:=ge.o.trans bp;have ao:=cs.o p1.1 p2.1 p3 (by rw[dz.o]) (by rw[ez.o,dz.o]) (by rw[gv.o,ez.o,dz.o]);obtain⟨m1,fb⟩:=aP p1.1;obtain⟨f1,fp⟩:=aP p2.1;obtain⟨c1,cf⟩:=aP p3.1;rw[<-fb,<-fp,<-cf]at ao;rw[<-fb]at bm|-
 rw[<-fp]at br|-
 rw[<-cf]at ea|-
 have bn:=hide bl;have bo:=hide ek;have gi:=hide ao;clear bl bp ek ao fb fp cf cs dz ez gv gr ha ih im ge;have ff:(¬(286<m1+257\/30<f1+1)/\FW b s (m1+257) (f1+1) (c1+4) 0 (fun _=>0) p3.2)\/((286<m1+257\/30<f1+1)/\Ill b s { p3.2 with err:=if p3.2.err=0 then 7 else p3.2.err }):=by
  rcases gi.o with⟨e1,e2,e3⟩|⟨e1,e2⟩|h9
  ·exact .inl ⟨e3, .inl ⟨by rw[e1],e2,by have:=e2.there;omega,rfl⟩⟩
  ·exact .inl ⟨e1, .inr e2⟩
  ·exact .inr h9
 clear gi;have kc:m1<32:=bm;have kf:f1<32:=br;have kl:c1<16:=ea;clear bm br ea;go_upto_region 4 with fail;go_cut [29] (fun bv wc=>bv= .bool (decide (286<m1+257\/30<f1+1))/\wc=w3);case first=>
  clear ff;by_cases h8:286<m1+257
  ·have jr:286<(m1:Int)+257:=(by omega);have hd:decide (286<m1+257\/30<f1+1)=true:=eU (.inl h8);go_wp2_with fail;go_meet;case rel=>exact⟨by rw[hd],rfl⟩
  ·have jr:¬(286<(m1:Int)+257):=(by omega);by_cases h9:30<f1+1
   ·have jk:30<(f1:Int)+1:=(by omega);have hd:decide (286<m1+257\/30<f1+1)=true:=eU (.inr h9);go_wp2_with fail;go_meet;case rel=>exact⟨by rw[hd],rfl⟩
   ·have jk:¬(30<(f1:Int)+1):=(by omega);have hd:decide (286<m1+257\/30<f1+1)=false:=fT (by omega);go_wp2_with fail;go_meet;case rel=>exact⟨by rw[hd],rfl⟩
 case rest=>
 obtain⟨rfl,ef⟩:=hcut;have bl:=bn.o;have bp:=bo.o;rw[<-ef]at bl bp;clear bn bo ef;obtain⟨jg,D⟩:=aP wc;subst D;have bn:=hide bl;have bo:=hide bp;clear bl bp;go_upto_if 29 with fail;go_cut [31] (fun u wc=>∃s4,uM w wc x base b s s4/\FW b s (m1+257) (f1+1) (c1+4) 0 (fun _=>0) s4);case first=>
  rcases ff with⟨dk,T⟩|⟨gb,bg⟩
  ·rw[fT dk];have al:=hide T;clear T;go_wp2_with fail;go_meet;case rel=>exact⟨p3.2,⟨bn.o,ch,bo.o⟩,al.o⟩
  ·rw[eU gb];have jy:=hide bg;clear bg;go_wp2_with fail;apply(iK x base 7 b p3.2 jg bn.o).mono;rintro r w4 ⟨rfl,ht,fv⟩;rw[ch]at fv;have ja:=hide ht;have jm:=hide (bo.o.trans fv);clear ht fv;go_wp2_with fail;go_meet;case rel=>exact⟨_,⟨ja.o,ch,jm.o⟩, .inr jy.o⟩
 case rest=>
  obtain⟨s4,R,T⟩:=hcut;obtain⟨w4,D⟩:=aP wc;subst D;have I:=hide R;have al:=hide T;clear R T ff bn bo;go_upto_region 6 with fail;go_cut [7] (fun p wd=>p=(E w4.heap.size)/\wd=w4.alloc (.cells mE 216));case first=>
   go_wp2_with (refine wpList_store_row rfl 216 (.tmp 7) (.tmp 32) rfl w4.heap.size mE rfl rfl 216 _ (aR _ _) az3 rfl Xn ?_);go_meet;case rel=>exact⟨rfl,by rw[World.setRow_alloc_new]⟩
  case rest=>
   obtain⟨rfl,fj⟩:=hcut;obtain⟨wd,D⟩:=aP wc;subst D;obtain⟨A,hO⟩:=aP w4.heap.size;rw[<-hO];have es:O w4 wd:=(by rw[fj];exact(aU _ _).alloc _);have hg:wd.heap[A]? =some (.cells mE 216 (0,0)):=(by rw[fj,hO];exact aR _ _);have eo:uM w wd x base b s s4:=⟨I.o.xat.step0 es,I.o.v_,I.o.wrt.step0 es⟩
   have kv:w.heap.size<=A:=(by have:=I.o.wrt.step.size;omega);clear fj hO es I;have Z:=hide eo;have dc:=hide hg;clear eo hg;go_wp2_with (at_make;refine sD _ rfl _ _ 57 rfl wd.heap.size 3 i0 (V 0) 1 underlying57 hi ka js .i64 .i64 _ _ 19 rfl rfl rfl rfl (by rw[jn];omega) (by unfold maxLen;omega) (aS _) ?_;intro w6 co ed);have d:=QL co;have bj:O wd w6:=(aU _ wd).grown ed (fun k hk=>by cases hk);obtain⟨F,hF⟩:=aP wd.heap.size;rw[<-hF]at d|-
   have lk:A<F:=(by have:=aO dc.o;omega);have cu:Off x s.v F:=by
    have B:=Z.o.xat;have dp:=B.aq4;have dh:=B.af8;refine⟨by omega,fun hk=> ?_⟩;have:=(B.own.lt F (by rw[Z.o.v_];exact hk)).2;omega
   have ic:Off x s.v A:=by
    have B:=jj.o;have dp:=B.aq4;have dh:=B.af8;refine⟨by omega,fun hk=> ?_⟩;have:=(B.own.lt A hk).2;omega
   have lf:w.heap.size<=F:=by omega
   have bc:=hide (show uM w w6 x base b s s4/\w6.heap[A]? =some (.cells mE 216 (0,0))/\bA w6 F 3 19 (fun i=>nat ((fun _=>0:Nat->Nat) i)) from
    ⟨⟨Z.o.xat.step0 bj,Z.o.v_,Z.o.wrt.step0 bj⟩,bj.at_ dc.o (fun x=>x),d⟩)
   clear co ed d bj hF Z dc;go_wp2_with fail;go_loopw [9] (fun i wr=>∃(k:Nat) (G:Nat->Nat) (s5:XS),i=V (k:Nat)/\k<=c1+4/\(∀j,G j<=15)/\FW b s (m1+257) (f1+1) (c1+4) k G s5/\uM w wr x base b s s5/\wr.heap[A]? =some (.cells mE 216 (0,0))/\bA wr F 3 19 (fun i=>nat (G i))) (fun i _=>c1+4-(intOf i).toNat);case atStart=>exact⟨0,fun _=>0,s4,rfl,by omega,fun _=>by simp,al.o,bc.o.1,bc.o.2.1,bc.o.2.2⟩
   case round=>
    clear bc al;obtain⟨k,G,s5,rfl,hk,hG,T,R,dq,d⟩:=hrel;by_cases jp:k<c1+4
    ·have ii:=(show wr.cell? (U A k)=some (V (bP[k]?.getD 0:Nat)) from aC dq k _ (Sr k (by omega)))
     have hq:=Dt k;obtain⟨q,fk⟩:=aP (bP[k]?.getD 0);rw[<-fk]at ii hq;have de:=gD x base 3 b s5 wr.drew (R.xat.step0 ((aU (fun _=>False) wr).drew)) (by omega);have it:=jM b s5 3;have fm:=(pW b s5 3).1;have ah:=He h0 jp T;rw[<-fk]at ah;obtain⟨pn,ia⟩:=aP (cB b s5 3);rw[<-ia]at de it fm ah;have ll:=d.cell q hq;have lj:=d.free q;have kn:(0:Int)<=(k:Int):=(by omega);have ln:(k:Int)<19:=(by omega);have kt:(0:Int)<=(q:Int):=(by omega);have lg:(q:Int)<19:=(by omega);have ig:¬(A=x\/s5.v.ownBlock=some A):=(by rw[R.v_];exact fun y=>y.elim ic.1 ic.2);have iu:¬(F=x\/s5.v.ownBlock=some F):=(by rw[R.v_];exact fun y=>y.elim cu.1 cu.2);have ki:¬(F=A):=(by omega);have km:¬(A=F):=(by omega);have gw:=hide de;have fw:=hide ah;have I:=hide R;have dc:=hide dq;have P:=hide d;have jw:=hide fm;have HG:=hide hG;clear de ah R dq d fm hG T ia fk;go_wp2_with fail;refine wp_region_noPanic ?_
     go_region_held3 (fun w'=>w'.cell? (U A k)=some (V (q:Nat))) (go_keep)
      (first|(go_at_call 140;apply gw.o.mono;rintro r w7 ⟨rfl,ga,bu⟩;have k1:=bu.step.cell (p:=(U A k)) ii ig;have ae:=P.o.drew.step bu.step iu;have k2:=ae.cell q hq;have k3:=ae.free q))
     all_goals
      refine NoPanic.normal ?_;have H:bA (w7.setCell (U F q) (V pn.1)) F 3 19 (fun i=>nat ((fun i=>if i=q then pn.1 else G i) i)):=by
       refine(ae.set q (V pn.1)).congr fun i _=> ?_;by_cases hi:i=q<;>simp[hi]
      have eg:(w7.setCell (U F q) (V pn.1)).heap[A]? =some (.cells mE 216 (0,0)):=
       (cZ _ _ _ _ (by show A≠F;omega)).trans (bu.step.at_ (w:=wr.drew) dc.o ig)
      have Y:uM w (w7.setCell (U F q) (V pn.1)) x base b s pn.2:=by
       have Q:pn.2.v=s.v:=jw.o.trans I.o.v_;refine⟨ga.aw3 (by rw[Q];exact cu) q _,Q,?_⟩;have h1:dH x w s.v w7 s.v:=I.o.wrt.trans (((dH.refl _ _ _).step0 ((aU (fun _=>False) wr).drew)).trans (I.o.v_▸bu));exact h1.aZ (by show w.heap.size<=F;omega) _
      have H1:=hide H;have H2:=hide eg;have H3:=hide Y;have jf:pn.1<=15:=(by omega);clear H eg Y ga bu k1 k2 k3 ae;go_wp2_with fail;go_roundw;case rel=>exact⟨k+1,_,_,by go_num,by omega,fun j=>by
       by_cases hj:j=q
       ·simp only[hj,if_true];exact jf
       ·simp only[hj,if_false];exact HG.o j,fw.o,H3.o,H2.o,H1.o⟩
      case measure=>simp[intOf];omega
    ·have:k=c1+4:=(by omega);subst this;have z:=MU d hG;have cz:=F8 F 0 19 false (bI G) wr z;rw[cK]at cz;have ib:Uv (bI G) false=fF (bI G):=rfl;rw[ib]at cz;obtain⟨mb,bs⟩:=aP (fF (bI G));rw[<-bs]at cz;have iq:=hide cz;have bz:=hide bs;have al:=hide T;have I:=hide R;have P:=hide d;have HG:=hide hG;clear cz T R dq d hG z ib bs;go_wp2_with fail;apply iq.o.mono;rintro r w8 ⟨rfl,gd⟩;have Y:=I.o;have H:=P.o;rw[<-gd]at Y H;have aa:=hide Y;have aq:=hide H;clear gd iq Y H I P;go_upto_if 49 with fail;go_cut [10,51] (fun mv u wc=>∃s6,uM w wc x base b s s6/\av6 b s (m1+257) (f1+1) (c1+4) (bI G) s6/\bA wc F 3 19 (fun i=>nat (G i)));case first=>
      cases hmv:mb with
      |true=>
       have HM:=hide (show fF (bI G)=true by rw[<-bz.o];exact hmv);clear hmv;go_wp2_with fail;go_meet;case rel=>exact⟨s5,aa.o,ai9 al.o HM.o,aq.o⟩
      |false=>
       have HM:=hide (show¬fF (bI G)=true by rw[<-bz.o,hmv];simp);clear hmv;go_wp2_with fail;apply(iK x base 7 b s5 w8 aa.o.xat).mono;rintro r w9 ⟨rfl,hl,dt⟩;rw[aa.o.v_]at dt;have iv:=hide (aq.o.step dt.step (fun y=>y.elim cu.1 cu.2));have jd:=hide (show uM w w9 x base b s { s5 with err:=if s5.err=0 then 7 else s5.err } from⟨hl,aa.o.v_,aa.o.wrt.trans dt⟩);clear hl dt;go_wp2_with fail;go_meet;case rel=>exact⟨_,jd.o,ap3 h0 al.o HM.o,iv.o⟩
     case rest=>
      obtain⟨s6,eq,cj,db⟩:=hcut;obtain⟨ji,D⟩:=aP wc;subst D;have aw:=xU F 0 19 (bI G) ji (MU db HG.o);rw[cK]at aw;have ap:=hide aw;have X:=hide eq;have an:=hide cj;clear aw eq cj db al aa aq bz;go_wp2_with fail;apply ap.o.mono;rintro r dw ⟨C,rfl,hC,ac,cx⟩;obtain⟨lb,fq⟩:=aP dw.heap.size;have N:uM w dw x base b s s6:=⟨X.o.xat.step0 cx,X.o.v_,X.o.wrt.step0 cx⟩
      have fg:Off x s.v C:=by
       have B:=X.o.xat;have dp:=B.aq4;have dh:=B.af8;refine⟨by omega,fun hk=> ?_⟩;have:=(B.own.lt C (by rw[X.o.v_];exact hk)).2;omega
      have ju:w.heap.size<=lb:=(by have:=N.wrt.step.size;omega);have cd:AJ dw lb x C s.v (.slice none 0 0) []:=by
       have B:=N.xat;have dp:=B.aq4;have dh:=B.af8;refine⟨jJ _ _ _ _,by omega,by rw[fq];exact ac.lt,fun k hk=> ?_,by omega,by simp,by simp⟩;have:=(B.own.lt k (by rw[N.v_];exact hk)).2;omega
      have em:=hide ac;have ag:=hide N;have au:=hide cd;have ky:=hide fq;clear ac N cd fq cx ap X hC;go_upto_block 2 with fail;go_cut [12] (fun lv wc=>∃row W,AJ wc lb x C s.v lv row/\uM w wc x base b s W/\aw6 b s (m1+257) (f1+1) row W);case first=>
       rcases an.o with⟨rfl,hW,gl,fh,ay⟩|bg
       ·obtain⟨n,hn⟩:=aP (m1+257+(f1+1));have jb:(n:Int)=(m1:Int)+257+((f1:Int)+1):=(by omega);have ie:n<=400:=(by omega);have hf:=hide ag.o;obtain⟨p0,ev⟩:=aP (s.at_+14+3*(c1+4));have du:=hide (show Ka (aI (bI G)) b s n p0 n [] { s with at_:=s.at_+14+3*(c1+4) } from .inl ⟨p0,by omega,by rw[ev],rfl,by simp,by simp⟩);have ej:=hide (show∀(g:Nat) (row:aD) (W:XS),Ka (aI (bI G)) b s n p0 g row W->(W.err≠0\/n<=row.length)->aw6 b s (m1+257) (f1+1) row W from fun g row W hr B=>by
         rw[fh,hn,ev]at hr;rw[hn]at B;rw[fh]at ay;exact al1 h0 hW gl ay hr B)
        have eh:p9 (bI G)=true:=(by unfold p9;rw[ay];simp);have hs:=hide eh;clear hW gl fh ay hn ev eh an;go_wp2_with fail;go_loopg [12] n (fun g lv wr=>∃row W,AJ wr lb x C s.v lv row/\row.length<=n/\uM w wr x base b s W/\qN wr C (bI G)/\Ka (aI (bI G)) b s n p0 g row W);case atStart=>exact⟨[],_,au.o,by simp,hf.o,em.o,du.o⟩
        case round=>
         obtain⟨row,W,d,S,l,ab,cp⟩:=hrel;obtain⟨la,lc,dm⟩:=d.slice;obtain⟨_,_,ce,_⟩:=l.xat.cell;have P:=hide d;have J:=hide l;have jq:=hide ab;have il:=hide cp;subst dm;obtain⟨rn,bk⟩:=aP row.length;rw[<-bk];have fz:=hide bk;by_cases ck:n<=rn
         ·have jv:¬((rn:Int)<(m1:Int)+257+((f1:Int)+1)):=(by omega);clear d l ab cp bk S;go_wp2_with fail;go_meet;case rel=>exact⟨row,W,by rw[fz.o];exact P.o,J.o,ej.o _ _ _ il.o (.inr (by rw[<-fz.o];exact ck))⟩
         ·have jv:(rn:Int)<(m1:Int)+257+((f1:Int)+1):=(by omega);by_cases cb:W.err=0
          ·have Q:=l.v_;have dd:∀i:Nat,(bI G)[i]?.getD 0<=15:=fun i=>by
            by_cases hi:i<19
            ·rw[lG G i hi];exact HG.o i
            ·rw[fZ (by rw[cK];omega)];simp
           have et:=ZG x base C lb n (bI G) row b W (.slice la row.length lc) wr l.xat ab (by rw[Q];exact fg) dd (cK G) hs.o cb (by rw[Q];exact d) ie (by omega);rw[cK,<-bk,jb]at et;have jc:=hide et;have iz:=hide (show∀ct s' w',ES (oK (aI (bI G)) (bytesOf b) n W.at_ row) wr x base C lb b W row ct s' w'->∃L g',gk=g'+1/\AJ w' lb x C s.v ct L/\L.length<=n/\uM w w' x base b s s'/\qN w' C (bI G)/\Ka (aI (bI G)) b s n p0 g' L s' from fun ct s' w' hp=>by
            obtain⟨L,g',fi,gu,cn,gq,je⟩:=Sn cb (by omega) cp hp;have hb:=d.lc;refine⟨L,g',fi,by rw[Q]at cn;exact cn,gq,⟨hp.1,je.trans Q,⟨?_,fun _ hk=> .inl hk⟩⟩,ab.step hp.2.1 (fun y=> ?_),gu⟩
            ·have h9:=hp.2.1;rw[Q]at h9;exact Step.past l.wrt.step ju (h9.mono (fun k hk=>hk.elim (fun y=> .inl (.inl y)) (fun y=>y.elim (fun y=> .inl (.inr y)) .inr)))
            ·rw[Q]at y;rcases y with y|y|y
             ·exact fg.1 y
             ·exact fg.2 y
             ·omega)
           have fl:((W.err:Int)==0)=true:=dI.2 (by omega);clear d l ab cp bk S et Q dd;go_wp2_with fail;apply jc.o.mono;rintro r jh ⟨ct,s',rfl,hp⟩;obtain⟨L,g',fi,r1,r2,r3,r4,r5⟩:=iz.o ct s' jh hp;have R1:=hide r1;have R3:=hide r3;have R4:=hide r4;have R5:=hide r5;have li:g'<gk:=(by omega);obtain⟨kr,ku,gn⟩:=r1.slice;subst gn;clear hp r1 r3 r4 r5 fi;go_wp2_with fail;go_roundg g';case measure=>omega
           case rel=>exact⟨L,s',R1.o,r2,R3.o,R4.o,R5.o⟩
          ·have fl:((W.err:Int)==0)=false:=aX.2 (by omega);clear d l ab cp bk S;go_wp2_with fail;go_meet;case rel=>exact⟨row,W,by rw[fz.o];exact P.o,J.o,ej.o _ _ _ il.o (.inl cb)⟩
       ·obtain⟨e,a,K,da,rfl⟩:=bg;have jx:=K.ne;obtain⟨_,_,ce,_⟩:=ag.o.xat.cell;have fl:((e:Int)==0)=false:=aX.2 (by omega);have id:=hide K;clear K;go_wp2_with fail;go_loopg [12] 1 (fun g lv wr=>lv= .slice none 0 0/\wr=dw);case atStart=>exact⟨rfl,rfl⟩
        case round=>
         obtain⟨rfl,io⟩:=hrel;have hc:=io.symm;clear io;subst hc;go_wp2_with fail;go_meet;case rel=>exact⟨[],_,au.o,ag.o, .inr ⟨e,a,id.o,da,rfl⟩⟩
      case rest=>
       obtain⟨row,W,d,l,ck⟩:=hcut;obtain⟨dy,D⟩:=aP wc;subst D;clear au ag em an;obtain⟨_,_,ce,_⟩:=l.xat.cell;rcases ck with⟨q,hq,ar,S,fc⟩|⟨e,a,K,da,ar⟩
       ·obtain⟨g,lc,dm,hb⟩:∃g lc,u12= .slice (some (U g 0)) (m1+257+(f1+1)) lc/\m1+257+(f1+1)<=lc:=by
         obtain⟨_,⟨hv,hn⟩|⟨g,cap,kw,hv,_,_,ir,_⟩⟩:=d.own
         ·omega
         ·exact⟨g,cap,by rw[<-S];exact hv,by rw[<-S];exact ir⟩
        have az:=d.own;rw[dm,S]at az;have z:Ints dy g 0 row:=⟨fun i hi=>by
         have h9:=az.cellAt i (by omega);rw[dS,h9];simp[TJ,kE,bV hi],d.aC5,by have:=d.few;omega⟩
        have ec:Off x s.v g:=by
         have B:=l.xat;have kq:=d.lx;have ks:=(az.lt g rfl).1;exact⟨by omega,fun hk=>by have:=d.lv_ g hk;omega⟩
        subst dm;obtain⟨n,hn⟩:=aP (m1+257+(f1+1));obtain⟨t,gz⟩:=aP (m1+257);rw[<-hn]at hb S|-
        rw[<-gz]at fc hn;have ee:(m1:Int)+257=(t:Int):=(by omega);have fu:(row.take t).length=t:=(by rw[dF];omega);have aw:(row.drop t).length=n-t:=(by rw[dX,S]);have ew:=XU z t;have fe:=WK z t;have ai:=F8 g 0 lc false (row.take t) dy ew;have aj:=F8 g t (lc-t) true (row.drop t) dy fe;rw[fu]at ai;rw[aw]at aj;have e1:Uv (row.take t) false=fF (row.take t):=rfl;have e2:Uv (row.drop t) true=p9 (row.drop t):=rfl;rw[e1]at ai;rw[e2]at aj;have hz:=z.cell 256 (by omega);have dr:=z.le 256;obtain⟨q6,dl⟩:=aP (row[256]?.getD 0);rw[<-dl,dS]at hz;rw[<-dl]at dr;obtain⟨ba,ey⟩:=aP (fF (row.take t));obtain⟨bf,er⟩:=aP (p9 (row.drop t));rw[<-ey]at ai;rw[<-er]at aj;have kd:(0:Int)<=(t:Int):=(by omega);have kk:(t:Int)<=(lc:Int):=(by omega);have ke:(t:Int)<=(n:Int):=(by omega);have kb:(n:Int)<=(lc:Int):=(by omega);have lm:(256:Int)<(n:Int):=(by omega);have ld:¬lc=0:=(by omega);have ko:¬lc=t:=(by omega);rw[ee];rw[ar]at ce;have ho:=hide ai;have ij:=hide aj;have ds:=hide ew;have dv:=hide fe;have cg:=hide fu;have ap:=hide aw;have J:=hide (show uM w dy x base b s { s with at_:=q } from ar▸l);have jl:=hide fc;have gf:=hide dl;have eu:=hide ey;have fo:=hide er;have he:=hide d.aC5;have ie:n<=400:=(by omega);clear ai aj ew fe fu aw l ar fc dl ey er z az d S hn gz e1 e2 ee;go_wp2_with fail;apply ho.o.mono;rintro r kz ⟨rfl,rfl⟩;go_wp2_with fail;rw[show n-t=n-t from rfl];apply ij.o.mono;rintro r lh ⟨rfl,rfl⟩;clear ho ij;go_upto_region 23 with fail;go_cut [13,98] (fun av bv wc=>bv= .bool (decide (q6=0)|| !ba|| !bf)/\uM w wc x base b s { s with at_:=q }/\Ints wc g 0 (row.take t)/\Ints wc g t (row.drop t));case first=>
         by_cases gs:q6=0
         ·have jz:((q6:Int)==0)=true:=dI.2 (by omega);have dx:decide (q6=0)=true:=eU gs;go_wp2_with fail;go_meet;case rel=>exact⟨by rw[dx];rfl,J.o,ds.o,dv.o⟩
         ·have jz:((q6:Int)==0)=false:=aX.2 (by omega);have dx:decide (q6=0)=false:=fT gs;cases hva:ba with
          |false=>
           go_wp2_with fail;go_meet;case rel=>exact⟨by rw[dx,hva];rfl,J.o,ds.o,dv.o⟩
          |true=>
           go_wp2_with fail;go_meet;case rel=>exact⟨by rw[dx,hva];simp,J.o,ds.o,dv.o⟩
        case rest=>
         obtain⟨rfl,df,cw,cy⟩:=hcut;obtain⟨ix,D⟩:=aP wc;subst D;obtain⟨cv,ak⟩:=aP ((decide (q6=0)|| !ba|| !bf));rw[<-ak];have gp:cv=false->0<q6/\ba=true/\bf=true:=fun B=>by
          rw[B]at ak;simp at ak;exact⟨by omega,ak.1.2,ak.2⟩
         have dk:cv=true->¬(0<q6/\ba=true/\bf=true):=fun B hy=>by
          rw[B,hy.2.1,hy.2.2]at ak;simp at ak;omega
         have gh:=hide gp;have gc:=hide dk;have bh:=hide df;have cr:=hide cw;have cq:=hide cy;clear ak gp dk df cw cy J ds dv;go_upto_if 98 with fail;go_cut [98,100] (fun cc u wc=>∃s8,uM w wc x base b s s8/\Ints wc g 0 (row.take t)/\Ints wc g t (row.drop t)/\((s8={ s with at_:=q }/\0<q6/\ba=true/\bf=true)\/(s8={ s with err:=7,at_:=q }/\¬(0<q6/\ba=true/\bf=true))));case first=>
          cases hcc:cv with
          |false=>
           have fd:=hide (gh.o hcc);go_wp2_with fail;go_meet;case rel=>exact⟨_,bh.o,cr.o,cq.o, .inl ⟨rfl,fd.o⟩⟩
          |true=>
           have fd:=hide (gc.o hcc);go_wp2_with fail;apply(iK x base 7 b _ ix bh.o.xat).mono;rintro r ad ⟨rfl,el,bb⟩;have ep:j6 ad x base b { s with err:=7,at_:=q }:=by
            have h9:=el;dsimp only at h9;rw[aA h0]at h9;exact h9
           have hw:=hide (show uM w ad x base b s { s with err:=7,at_:=q } from⟨ep,rfl,bh.o.wrt.trans bb⟩);have hh:=hide (cr.o.step bb.step (fun y=>y.elim ec.1 ec.2));have ax:=hide (cq.o.step bb.step (fun y=>y.elim ec.1 ec.2));clear el bb ep;go_wp2_with fail;go_meet;case rel=>exact⟨_,hw.o,hh.o,ax.o, .inr ⟨rfl,fd.o⟩⟩
         case rest=>
          obtain⟨s8,bw,cm,dg,cl⟩:=hcut;obtain⟨ad,D⟩:=aP wc;subst D;have fy:=xU g 0 lc (row.take t) ad.drew (cm.step ((aU (fun _=>False) ad).drew) (fun x=>x));rw[cg.o]at fy;have ik:=hide fy;have am:=hide bw;have ax:=hide dg;have iy:=hide cl;clear fy bw cm dg cl gh gc bh cr cq;have ft:=fun dn (h:O ad dn)=>xU g t (lc-t) (row.drop t) dn (ax.o.step h (fun x=>x));rw[ap.o]at ft;have gy:=hide ft;clear ft ax;go_wp2_with fail
          go_region_held3 (fun _=>True) (exact bT)
           (first|(go_at_call 167;apply ik.o.mono;clear ik;rintro r dn ⟨C1,rfl,iw,bt,en⟩;have M:=(aU (fun _=>False) ad).drew.trans en;have ip:=hide (gy.o dn M);clear gy)|(go_at_call 167;apply ip.o.mono;clear ip;rintro r bq ⟨C2,rfl,kx,bx,be⟩))
          have ca:=hide (show Mt (bW (bytesOf b) s.at_) x base b s w (.slice (some (U C1 0)) t t) (.slice (some (U C2 0)) (n-t) (n-t)) s8 bq from by
           have af:uM w bq x base b s s8:=⟨(am.o.xat.step0 M).step0 be,am.o.v_,(am.o.wrt.step0 M).step0 be⟩
           have ei:∀k,ad.heap.size<=k->Off x s.v k:=fun k hk=>by
            have B:=am.o.xat;have dp:=B.aq4;have dh:=B.af8;refine⟨by omega,fun jo=> ?_⟩;have:=(B.own.lt k (by rw[am.o.v_];exact jo)).2;omega
           have kh:=M.size;have kj:ad.heap.size<=C1:=iw;have cf:qN bq C1 (row.take t):=by
            show bA bq C1 _ (2*(row.take t).length) _;rw[cg.o];exact bt.step be (fun x=>x)
           have jt:qN bq C2 (row.drop t):=by
            show bA bq C2 _ (2*(row.drop t).length) _;rw[ap.o];exact bx
           have bm:∀i:Nat,(row.take t)[i]?.getD 0<=15:=fun i=>by
            by_cases hi:i<t
            ·rw[jQ hi];exact he.o i
            ·rw[fZ (by rw[cg.o];omega)];simp
           have br:∀i:Nat,(row.drop t)[i]?.getD 0<=15:=fun i=>by rw[kM];exact he.o _
           rw[jl.o];unfold pI;rcases iy.o with⟨rfl,k1,k2,k3⟩|⟨rfl,k1⟩
           ·rw[aA ⟨by rw[<-gf.o];exact k1,by rw[<-eu.o];exact k2,by rw[<-fo.o];exact k3⟩];refine⟨af.xat,af.wrt,rfl,C1,C2,by dsimp only;rw[cg.o],by dsimp only;rw[ap.o],⟨cf,jt,ei C1 (by omega),ei C2 (by omega),bm,br,by dsimp only;rw[cg.o];omega,by dsimp only;rw[ap.o];omega,?_,by dsimp only;rw[<-fo.o];exact k3⟩⟩;dsimp only;unfold p9;rw[<-eu.o,k2];simp
           ·rw[aB (fun B=>k1 ⟨by rw[gf.o];exact B.1,by rw[eu.o];exact B.2.1,by rw[fo.o];exact B.2.2⟩)];exact⟨af.xat,af.wrt,by omega,⟨_,_,_,rfl⟩,⟨_,_,_,rfl⟩,q,hq,rfl⟩)
          clear en M be bt bx;go_wp2_with fail;go_ret2;exact⟨_,_,s8,rfl,ca.o⟩
       ·have jx:=K.ne;have fl:((e:Int) !=0)=true:=(by rw[jP];omega);have ca:=hide (Va K (c1:= .slice none 0 0) (c2:= .slice none 0 0) ⟨_,_,_,rfl⟩ ⟨_,_,_,rfl⟩ da (ar▸l.xat) l.wrt);rw[ar]at ce;clear K d l ar;go_wp2_with fail;go_ret2;exact⟨_,_,rfl,_,ca.o⟩
end Go.Proofs.YtbpahojchgpdnaaGreatDoor
