import Derived.Deep.CutBlock
import Derived.Test.YtbpahojchgpdnaaGreatDoorXTold
set_option maxRecDepth 20000
set_option maxHeartbeats 4000000
set_option linter.all false
namespace Go.Proofs.YtbpahojchgpdnaaGreatDoor
open Go.RowKit Go.dM Go.Proofs.Tryz
variable {w:aH} {b:bY} {c f m:Nat}
def mE:Array aK:=#[V 16,V 17,V 18,V 0,V 8,V 7,V 9,V 6,V 10,V 5,V 11,V 4,V 12,V 3,V 13,V 2,V 14,V 1,V 15]
def az3:(prog.info? 216).map (·.size)=some mE.size:=by kernel_rfl
def Xn:mE.all (·.oneCell')=true:=by kernel_rfl
def Sr (i:Nat)(h:i<19):mE[i]? =some (V (bP[i]?.getD 0:Nat)):=by
 have:i=0\/i=1\/i=2\/i=3\/i=4\/i=5\/i=6\/i=7\/i=8\/i=9\/i=10\/i=11\/i=12\/i=13\/i=14\/i=15\/i=16\/i=17\/i=18:=by omega
 rcases this with rfl|rfl|rfl|rfl|rfl|rfl|rfl|rfl|rfl|rfl|rfl|rfl|rfl|rfl|rfl|rfl|rfl|rfl|rfl<;>rfl
def j6.aw3 {x base F:Nat}{s:XS}(h:j6 w x base b s)(a:Off x s.v F)(i:Nat)(u:aK):j6 (w.setCell (U F i) u) x base b s:=h.step ((aU (fun k=>k=F) w).setCell (p:=(U F i)) rfl u) (fun e=>a.1 e.symm) (fun _ hk e=>a.2 (e▸hk))
structure uM (w wr:aH)(x base:Nat)(b:bY)(s s2:XS):Prop where
 H9:j6 wr x base b s2
 v_:s2.v=s.v
 wrt:dH x w s.v wr s.v
def bI (G:Nat->Nat):aD:=(List.range 19).map G
def cK (G:Nat->Nat):(bI G).length=19:=by simp[bI]
def lG (G:Nat->Nat)(i:Nat)(hi:i<19):(bI G)[i]?.getD 0=G i:=by simp[bI,hi]
def MU {F:Nat}{G:Nat->Nat}(h:bA w F 3 19 (fun i=>nat (G i)))(a:∀i,G i<=15):Ints w F 0 (bI G):=
 ⟨fun i hi=>by rw[cK]at hi;rw[lG G i hi,dS];exact h.cell i hi,fun i=>by
  by_cases hi:i<19
  ·rw[lG G i hi];exact a i
  ·rw[fZ (by rw[cK];omega)];simp,by rw[cK];omega⟩
def av6 (b:bY)(s:XS)(m f c:Nat)(L:aD)(s5:XS):Prop:=
 (s5={ s with at_:=s.at_+14+3*c }/\Well b s m f c/\s.at_+14+3*c<=8*b.size/\L=bD (bytesOf b) (s.at_+14) c/\fF L=true)\/Ill b s s5
def ai9 {s a:XS}{G:Nat->Nat}(h:FW b s m f c c G a)(j:fF (bI G)=true):av6 b s m f c (bI G) a:=by
 rcases h with⟨d,e,g,i⟩|h
 ·exact .inl ⟨d,e,g,by rw[i];rfl,j⟩
 ·exact .inr h
def ap3 {s d:XS}{G:Nat->Nat}(k:s.err=0)(h:FW b s m f c c G d)(o:¬fF (bI G)=true):av6 b s m f c (bI G) { d with err:=if d.err=0 then 7 else d.err }:=by
 rcases h with⟨rfl,l,i,rfl⟩|⟨e,a,j,n,rfl⟩
 ·refine .inr ⟨7,_, .inl ⟨?_,by omega⟩,i,?_⟩
  ·have g:¬fF (bD (bytesOf b) (s.at_+14) c)=true:=o;rw[l.rC,aA i,aB g]
  ·dsimp only;rw[aA k]
 ·refine .inr ⟨e,a,j,n,?_⟩;dsimp only;rw[aB j.ne]
def aw6 (b:bY)(s:XS)(m f:Nat)(row:aD)(s7:XS):Prop:=
 (∃q,q<=8*b.size/\s7={ s with at_:=q }/\row.length=m+f/\bW (bytesOf b) s.at_=pI row m q)\/Ill b s s7
def al1 {s o:XS}{g:Nat}{row:aD}(q:s.err=0)(k:Well b s m f c)(d:s.at_+14+3*c<=8*b.size)(n:fF (bD (bytesOf b) (s.at_+14) c)=true)(h:Ka (aI (bD (bytesOf b) (s.at_+14) c)) b s (m+f) (s.at_+14+3*c) g row o)(j:o.err≠0\/m+f<=row.length):aw6 b s m f row o:=by
 rcases h with⟨p2,hp,rfl,p,t,u⟩|⟨e,a,i,r,rfl⟩
 ·rcases j with j|j
  ·exact absurd q j
  ·refine .inl ⟨p2,hp,rfl,by omega,?_⟩;rw[Mx _ _ _ _ _ _ j]at p;rw[k.rC,aA d,aA n,<-p]
 ·refine .inr ⟨e,a,?_,r,rfl⟩;rcases i with⟨i,l⟩|⟨i,l⟩
  ·exact .inl ⟨by rw[k.rC,aA d,aA n,i],l⟩
  ·exact .inr ⟨by rw[k.rC,aA d,aA n,i],l⟩
def Sn {D:d9}{s p:XS}{n p0 g:Nat}{row:aD}{w':aH}{x base C lb:Nat}{t:aK}{s':XS}(A:p.err=0)(z:row.length<n)(h:Ka D b s n p0 g row p)(hp:ES (oK D (bytesOf b) n p.at_ row) w x base C lb b p row t s' w'):∃i o,g=o+1/\Ka D b s n p0 o i s'/\AJ w' lb x C p.v t i/\i.length<=n/\s'.v=p.v:=by
 rcases h with⟨p2,G,rfl,l,F,r⟩|⟨e,a,B,y,rfl⟩
 ·obtain⟨o,rfl⟩:∃j,g=j+1:=⟨g-1,by omega⟩
  rw[Lm _ _ _ _ _ _ z]at l;obtain⟨I,H,k⟩:=hp;dsimp only at k;cases hrs:oK D (bytesOf b) n p2 row with
  |ok i q=>
   have u:=Ja hrs;rw[hrs]at l k;obtain⟨rfl,d⟩:=k;exact⟨i,o,rfl, .inl ⟨q,I.there,rfl,l,by omega,u.2⟩,d,u.2,rfl⟩
  |no e=>
   have u:=Lc hrs;rw[hrs]at l k;obtain⟨⟨a,y,rfl⟩,d⟩:=k;exact⟨row,o,rfl, .inr ⟨e,a, .inl ⟨l.symm,u⟩,y,rfl⟩,d,r,rfl⟩
  |miss=>
   rw[hrs]at l k;obtain⟨⟨a,y,rfl⟩,d⟩:=k;exact⟨row,o,rfl, .inr ⟨3,a, .inr ⟨l.symm,rfl⟩,y,rfl⟩,d,r,rfl⟩
 ·exact absurd A B.ne
def sM:oL:=by
 intro x base b s w h h0;obtain⟨i0,hi,js,jt,ju⟩:=eD info3;have hz:=h.there;have fl:=gD x base 5 b s w h (by omega);have bl:=jM b s 5;have ia:=(pW b s 5).1;have bt:=hide (az6 b s h0 hz);obtain⟨p1,fo⟩:=aP (cB b s 5);rw[<-fo]at fl bl ia;have dj:=hide fo;have gn:=hide fl;have jb:=hide h;clear fo fl h;go_enter func144,ntmps144;go_wp2_with fail;apply gn.o.mono;rintro r w1 ⟨rfl,ih,ib⟩;have dr:=gD x base 5 b p1.2 w1 ih (by omega);have bm:=jM b p1.2 5;have fw:=(pW b p1.2 5).1;obtain⟨p2,fp⟩:=aP (cB b p1.2 5);rw[<-fp]at dr bm fw;rw[ia]at dr fw;have eu:=hide fp;have gp:=hide dr;have gx:=hide ib;clear fp dr ih ib;go_wp2_with fail;apply gp.o.mono;rintro r w2 ⟨rfl,ii,ic⟩;have ds:=gD x base 4 b p2.2 w2 ii (by omega);have dn:=jM b p2.2 4;have dc:=(pW b p2.2 4).1;obtain⟨p3,fq⟩:=aP (cB b p2.2 4);rw[<-fq]at ds dn dc;rw[fw]at ds dc;have gu:=hide fq;have gq:=hide ds;have gy:=hide (gx.o.trans ic);clear fq ds ii ic;go_wp2_with fail;apply gq.o.mono;rintro r w3 ⟨rfl,bp,bo⟩;have em:=gy.o.trans bo;have ar:=bt.o p1.1 p2.1 p3 (by rw[dj.o]) (by rw[eu.o,dj.o]) (by rw[gu.o,eu.o,dj.o]);obtain⟨m1,fk⟩:=aP p1.1;obtain⟨f1,fe⟩:=aP p2.1;obtain⟨c1,cf⟩:=aP p3.1;rw[<-fk,<-fe,<-cf]at ar;rw[<-fk]at bl|-
 rw[<-fe]at bm|-
 rw[<-cf]at dn|-
 have bk:=hide bp;have bj:=hide em;have gf:=hide ar;clear bp bo em ar fk fe cf bt dj eu gu gn gp gq gx gy;have fa:(¬(286<m1+257\/30<f1+1)/\FW b s (m1+257) (f1+1) (c1+4) 0 (fun _=>0) p3.2)\/((286<m1+257\/30<f1+1)/\Ill b s { p3.2 with err:=if p3.2.err=0 then 7 else p3.2.err }):=by
  rcases gf.o with⟨e1,e2,e3⟩|⟨e1,e2⟩|h9
  ·exact .inl ⟨e3, .inl ⟨by rw[e1],e2,by have:=e2.there;omega,rfl⟩⟩
  ·exact .inl ⟨e1, .inr e2⟩
  ·exact .inr h9
 clear gf;have ke:m1<32:=bl;have kc:f1<32:=bm;have kb:c1<16:=dn;clear bl bm dn;go_upto_region 4 with fail;go_cut [29] (fun bv wc=>bv= .bool (decide (286<m1+257\/30<f1+1))/\wc=w3);case first=>
  clear fa;by_cases h8:286<m1+257
  ·have jd:286<(m1:Int)+257:=(by omega);have hd:decide (286<m1+257\/30<f1+1)=true:=eU (.inl h8);go_wp2_with fail;go_meet;case rel=>exact⟨by rw[hd],rfl⟩
  ·have jd:¬(286<(m1:Int)+257):=(by omega);by_cases h9:30<f1+1
   ·have je:30<(f1:Int)+1:=(by omega);have hd:decide (286<m1+257\/30<f1+1)=true:=eU (.inr h9);go_wp2_with fail;go_meet;case rel=>exact⟨by rw[hd],rfl⟩
   ·have je:¬(30<(f1:Int)+1):=(by omega);have hd:decide (286<m1+257\/30<f1+1)=false:=fT (by omega);go_wp2_with fail;go_meet;case rel=>exact⟨by rw[hd],rfl⟩
 case rest=>
 obtain⟨rfl,en⟩:=hcut;have bp:=bk.o;have bo:=bj.o;rw[<-en]at bp bo;clear bk bj en;obtain⟨jz,H⟩:=aP wc;subst H;have bk:=hide bp;have bj:=hide bo;clear bp bo;go_upto_if 29 with fail;go_cut [31] (fun u wc=>∃s4,uM w wc x base b s s4/\FW b s (m1+257) (f1+1) (c1+4) 0 (fun _=>0) s4);case first=>
  rcases fa with⟨dt,R⟩|⟨io,az⟩
  ·rw[fT dt];have ai:=hide R;clear R;go_wp2_with fail;go_meet;case rel=>exact⟨p3.2,⟨bk.o,dc,bj.o⟩,ai.o⟩
  ·rw[eU io];have it:=hide az;clear az;go_wp2_with fail;apply(iK x base 7 b p3.2 jz bk.o).mono;rintro r w4 ⟨rfl,ij,fx⟩;rw[dc]at fx;have jc:=hide ij;have ja:=hide (bj.o.trans fx);clear ij fx;go_wp2_with fail;go_meet;case rel=>exact⟨_,⟨jc.o,dc,ja.o⟩, .inr it.o⟩
 case rest=>
  obtain⟨s4,Q,R⟩:=hcut;obtain⟨w4,H⟩:=aP wc;subst H;have I:=hide Q;have ai:=hide R;clear Q R fa bk bj;go_upto_region 6 with fail;go_cut [7] (fun p wd=>p=(E w4.heap.size)/\wd=w4.alloc (.cells mE 216));case first=>
   go_wp2_with (refine wpList_store_row rfl 216 (.tmp 7) (.tmp 32) rfl w4.heap.size mE rfl rfl 216 _ (aR _ _) az3 rfl Xn ?_);go_meet;case rel=>exact⟨rfl,by rw[World.setRow_alloc_new]⟩
  case rest=>
   obtain⟨rfl,fy⟩:=hcut;obtain⟨wd,H⟩:=aP wc;subst H;obtain⟨A,hO⟩:=aP w4.heap.size;rw[<-hO];have fu:O w4 wd:=(by rw[fy];exact(aU _ _).alloc _);have hu:wd.heap[A]? =some (.cells mE 216 (0,0)):=(by rw[fy,hO];exact aR _ _);have ee:uM w wd x base b s s4:=⟨I.o.H9.step0 fu,I.o.v_,I.o.wrt.step0 fu⟩
   have kt:w.heap.size<=A:=(by have:=I.o.wrt.step.size;omega);clear fy hO fu I;have W:=hide ee;have bx:=hide hu;clear ee hu;go_wp2_with (at_make;refine sD _ rfl _ _ 57 rfl wd.heap.size 3 i0 (V 0) 1 underlying57 hi js jt .i64 .i64 _ _ 19 rfl rfl rfl rfl (by rw[ju];omega) (by unfold maxLen;omega) (aS _) ?_;intro w6 cw eh);have d:=QL cw;have bg:O wd w6:=(aU _ wd).grown eh (fun k hk=>by cases hk);obtain⟨F,hF⟩:=aP wd.heap.size;rw[<-hF]at d|-
   have ks:A<F:=(by have:=aO bx.o;omega);have de:Off x s.v F:=by
    have B:=W.o.H9;have dx:=B.aq4;have dy:=B.af8;refine⟨by omega,fun hk=> ?_⟩;have:=(B.own.lt F (by rw[W.o.v_];exact hk)).2;omega
   have im:Off x s.v A:=by
    have B:=jb.o;have dx:=B.aq4;have dy:=B.af8;refine⟨by omega,fun hk=> ?_⟩;have:=(B.own.lt A hk).2;omega
   have kr:w.heap.size<=F:=by omega
   have ay:=hide (show uM w w6 x base b s s4/\w6.heap[A]? =some (.cells mE 216 (0,0))/\bA w6 F 3 19 (fun i=>nat ((fun _=>0:Nat->Nat) i)) from
    ⟨⟨W.o.H9.step0 bg,W.o.v_,W.o.wrt.step0 bg⟩,bg.at_ bx.o (fun x=>x),d⟩)
   clear cw eh d bg hF W bx;go_wp2_with fail;go_loopw [9] (fun i wr=>∃(k:Nat) (G:Nat->Nat) (s5:XS),i=V (k:Nat)/\k<=c1+4/\(∀j,G j<=15)/\FW b s (m1+257) (f1+1) (c1+4) k G s5/\uM w wr x base b s s5/\wr.heap[A]? =some (.cells mE 216 (0,0))/\bA wr F 3 19 (fun i=>nat (G i))) (fun i _=>c1+4-(intOf i).toNat);case atStart=>exact⟨0,fun _=>0,s4,rfl,by omega,fun _=>by simp,ai.o,ay.o.1,ay.o.2.1,ay.o.2.2⟩
   case round=>
    clear ay ai;obtain⟨k,G,s5,rfl,hk,hG,R,Q,dv,d⟩:=hrel;by_cases jk:k<c1+4
    ·have ho:=(show wr.cell? (U A k)=some (V (bP[k]?.getD 0:Nat)) from aC dv k _ (Sr k (by omega)))
     have hq:=Dt k;obtain⟨q,fr⟩:=aP (bP[k]?.getD 0);rw[<-fr]at ho hq;have cu:=gD x base 3 b s5 wr.drew (Q.H9.step0 ((aU (fun _=>False) wr).drew)) (by omega);have jp:=jM b s5 3;have fm:=(pW b s5 3).1;have ae:=He h0 jk R;rw[<-fr]at ae;obtain⟨pn,ht⟩:=aP (cB b s5 3);rw[<-ht]at cu jp fm ae;have ku:=d.cell q hq;have kv:=d.free q;have ky:(0:Int)<=(k:Int):=(by omega);have kz:(k:Int)<19:=(by omega);have lh:(0:Int)<=(q:Int):=(by omega);have li:(q:Int)<19:=(by omega);have hb:¬(A=x\/s5.v.ownBlock=some A):=(by rw[Q.v_];exact fun y=>y.elim im.1 im.2);have jg:¬(F=x\/s5.v.ownBlock=some F):=(by rw[Q.v_];exact fun y=>y.elim de.1 de.2);have kj:¬(F=A):=(by omega);have kk:¬(A=F):=(by omega);have gs:=hide cu;have es:=hide ae;have I:=hide Q;have bx:=hide dv;have K:=hide d;have iw:=hide fm;have HG:=hide hG;clear cu ae Q dv d fm hG R ht fr;go_wp2_with fail;refine wp_region_noPanic ?_
     go_region_held3 (fun w'=>w'.cell? (U A k)=some (V (q:Nat))) (go_keep)
      (first|(go_at_call 140;apply gs.o.mono;rintro r w7 ⟨rfl,ik,dd⟩;have k1:=dd.step.cell (p:=(U A k)) ho hb;have af:=K.o.drew.step dd.step jg;have k2:=af.cell q hq;have k3:=af.free q))
     all_goals
      refine NoPanic.normal ?_;have D:bA (w7.setCell (U F q) (V pn.1)) F 3 19 (fun i=>nat ((fun i=>if i=q then pn.1 else G i) i)):=by
       refine(af.set q (V pn.1)).congr fun i _=> ?_;by_cases hi:i=q<;>simp[hi]
      have ek:(w7.setCell (U F q) (V pn.1)).heap[A]? =some (.cells mE 216 (0,0)):=
       (cZ _ _ _ _ (by show A≠F;omega)).trans (dd.step.at_ (w:=wr.drew) bx.o hb)
      have Z:uM w (w7.setCell (U F q) (V pn.1)) x base b s pn.2:=by
       have T:pn.2.v=s.v:=iw.o.trans I.o.v_;refine⟨ik.aw3 (by rw[T];exact de) q _,T,?_⟩;have h1:dH x w s.v w7 s.v:=I.o.wrt.trans (((dH.refl _ _ _).step0 ((aU (fun _=>False) wr).drew)).trans (I.o.v_▸dd));exact h1.aZ (by show w.heap.size<=F;omega) _
      have H1:=hide D;have H2:=hide ek;have H3:=hide Z;have jq:pn.1<=15:=(by omega);clear D ek Z ik dd k1 k2 k3 af;go_wp2_with fail;go_roundw;case rel=>exact⟨k+1,_,_,by go_num,by omega,fun j=>by
       by_cases hj:j=q
       ·simp only[hj,if_true];exact jq
       ·simp only[hj,if_false];exact HG.o j,es.o,H3.o,H2.o,H1.o⟩
      case measure=>simp[intOf];omega
    ·have:k=c1+4:=(by omega);subst this;have z:=MU d hG;have cs:=F8 F 0 19 false (bI G) wr z;rw[cK]at cs;have hl:Uv (bI G) false=fF (bI G):=rfl;rw[hl]at cs;obtain⟨mb,ct⟩:=aP (fF (bI G));rw[<-ct]at cs;have gm:=hide cs;have bw:=hide ct;have ai:=hide R;have I:=hide Q;have K:=hide d;have HG:=hide hG;clear cs R Q dv d hG z hl ct;go_wp2_with fail;apply gm.o.mono;rintro r w8 ⟨rfl,id⟩;have Z:=I.o;have D:=K.o;rw[<-id]at Z D;have Y:=hide Z;have ap:=hide D;clear id gm Z D I K;go_upto_if 49 with fail;go_cut [10,51] (fun mv u wc=>∃s6,uM w wc x base b s s6/\av6 b s (m1+257) (f1+1) (c1+4) (bI G) s6/\bA wc F 3 19 (fun i=>nat (G i)));case first=>
      cases hmv:mb with
      |true=>
       have HM:=hide (show fF (bI G)=true by rw[<-bw.o];exact hmv);clear hmv;go_wp2_with fail;go_meet;case rel=>exact⟨s5,Y.o,ai9 ai.o HM.o,ap.o⟩
      |false=>
       have HM:=hide (show¬fF (bI G)=true by rw[<-bw.o,hmv];simp);clear hmv;go_wp2_with fail;apply(iK x base 7 b s5 w8 Y.o.H9).mono;rintro r w9 ⟨rfl,il,dw⟩;rw[Y.o.v_]at dw;have iy:=hide (ap.o.step dw.step (fun y=>y.elim de.1 de.2));have iq:=hide (show uM w w9 x base b s { s5 with err:=if s5.err=0 then 7 else s5.err } from⟨il,Y.o.v_,Y.o.wrt.trans dw⟩);clear il dw;go_wp2_with fail;go_meet;case rel=>exact⟨_,iq.o,ap3 h0 ai.o HM.o,iy.o⟩
     case rest=>
      obtain⟨s6,ef,cr,cz⟩:=hcut;obtain⟨jw,H⟩:=aP wc;subst H;have aq:=xU F 0 19 (bI G) jw (MU cz HG.o);rw[cK]at aq;have am:=hide aq;have X:=hide ef;have an:=hide cr;clear aq ef cr cz ai Y ap bw;go_wp2_with fail;apply am.o.mono;rintro r dz ⟨C,rfl,hC,ad,db⟩;obtain⟨lb,fi⟩:=aP dz.heap.size;have L:uM w dz x base b s s6:=⟨X.o.H9.step0 db,X.o.v_,X.o.wrt.step0 db⟩
      have ew:Off x s.v C:=by
       have B:=X.o.H9;have dx:=B.aq4;have dy:=B.af8;refine⟨by omega,fun hk=> ?_⟩;have:=(B.own.lt C (by rw[X.o.v_];exact hk)).2;omega
      have jl:w.heap.size<=lb:=(by have:=L.wrt.step.size;omega);have cy:AJ dz lb x C s.v (.slice none 0 0) []:=by
       have B:=L.H9;have dx:=B.aq4;have dy:=B.af8;refine⟨jJ _ _ _ _,by omega,by rw[fi];exact ad.lt,fun k hk=> ?_,by omega,by simp,by simp⟩;have:=(B.own.lt k (by rw[L.v_];exact hk)).2;omega
      have ec:=hide ad;have ab:=hide L;have ao:=hide cy;have km:=hide fi;clear ad L cy fi db am X hC;go_upto_block 2 with fail;go_cut [12] (fun lv wc=>∃row s7,AJ wc lb x C s.v lv row/\uM w wc x base b s s7/\aw6 b s (m1+257) (f1+1) row s7);case first=>
       rcases an.o with⟨rfl,hW,he,ex,bb⟩|az
       ·obtain⟨n,hn⟩:=aP (m1+257+(f1+1));have jo:(n:Int)=(m1:Int)+257+((f1:Int)+1):=(by omega);have hm:n<=400:=(by omega);have fz:=hide ab.o;obtain⟨p0,fn⟩:=aP (s.at_+14+3*(c1+4));have dk:=hide (show Ka (aI (bI G)) b s n p0 n [] { s with at_:=s.at_+14+3*(c1+4) } from .inl ⟨p0,by omega,by rw[fn],rfl,by simp,by simp⟩);have ed:=hide (show∀(g:Nat) (row:aD) (s7:XS),Ka (aI (bI G)) b s n p0 g row s7->(s7.err≠0\/n<=row.length)->aw6 b s (m1+257) (f1+1) row s7 from fun g row s7 hr B=>by
         rw[ex,hn,fn]at hr;rw[hn]at B;rw[ex]at bb;exact al1 h0 hW he bb hr B)
        have eg:p9 (bI G)=true:=(by unfold p9;rw[bb];simp);have ge:=hide eg;clear hW he ex bb hn fn eg an;go_wp2_with fail;go_loopg [12] n (fun g lv wr=>∃row s7,AJ wr lb x C s.v lv row/\row.length<=n/\uM w wr x base b s s7/\qN wr C (bI G)/\Ka (aI (bI G)) b s n p0 g row s7);case atStart=>exact⟨[],_,ao.o,by simp,fz.o,ec.o,dk.o⟩
        case round=>
         obtain⟨row,s7,d,S,l,aa,da⟩:=hrel;obtain⟨la,lc,dq⟩:=d.slice;obtain⟨_,_,ce,_⟩:=l.H9.cell;have K:=hide d;have J:=hide l;have ir:=hide aa;have gw:=hide da;subst dq;obtain⟨rn,bn⟩:=aP row.length;rw[<-bn];have ev:=hide bn;by_cases cj:n<=rn
         ·have ji:¬((rn:Int)<(m1:Int)+257+((f1:Int)+1)):=(by omega);clear d l aa da bn S;go_wp2_with fail;go_meet;case rel=>exact⟨row,s7,by rw[ev.o];exact K.o,J.o,ed.o _ _ _ gw.o (.inr (by rw[<-ev.o];exact cj))⟩
         ·have ji:(rn:Int)<(m1:Int)+257+((f1:Int)+1):=(by omega);by_cases ck:s7.err=0
          ·have T:=l.v_;have cq:∀i:Nat,(bI G)[i]?.getD 0<=15:=fun i=>by
            by_cases hi:i<19
            ·rw[lG G i hi];exact HG.o i
            ·rw[fZ (by rw[cK];omega)];simp
           have fj:=ZG x base C lb n (bI G) row b s7 (.slice la row.length lc) wr l.H9 aa (by rw[T];exact ew) cq (cK G) ge.o ck (by rw[T];exact d) hm (by omega);rw[cK,<-bn,jo]at fj;have iv:=hide fj;have ix:=hide (show∀df s' w',ES (oK (aI (bI G)) (bytesOf b) n s7.at_ row) wr x base C lb b s7 row df s' w'->∃P g',gk=g'+1/\AJ w' lb x C s.v df P/\P.length<=n/\uM w w' x base b s s'/\qN w' C (bI G)/\Ka (aI (bI G)) b s n p0 g' P s' from fun df s' w' hp=>by
            obtain⟨P,g',ff,hw,cx,hf,jr⟩:=Sn ck (by omega) da hp;have hc:=d.lc;refine⟨P,g',ff,by rw[T]at cx;exact cx,hf,⟨hp.1,jr.trans T,⟨?_,fun _ hk=> .inl hk⟩⟩,aa.step hp.2.1 (fun y=> ?_),hw⟩
            ·have h9:=hp.2.1;rw[T]at h9;exact Step.past l.wrt.step jl (h9.mono (fun k hk=>hk.elim (fun y=> .inl (.inl y)) (fun y=>y.elim (fun y=> .inl (.inr y)) .inr)))
            ·rw[T]at y;rcases y with y|y|y
             ·exact ew.1 y
             ·exact ew.2 y
             ·omega)
           have fd:((s7.err:Int)==0)=true:=dI.2 (by omega);clear d l aa da bn S fj T cq;go_wp2_with fail;apply iv.o.mono;rintro r jx ⟨df,s',rfl,hp⟩;obtain⟨P,g',ff,r1,r2,r3,r4,r5⟩:=ix.o df s' jx hp;have R1:=hide r1;have R3:=hide r3;have R4:=hide r4;have R5:=hide r5;have kx:g'<gk:=(by omega);obtain⟨lj,lk,hg⟩:=r1.slice;subst hg;clear hp r1 r3 r4 r5 ff;go_wp2_with fail;go_roundg g';case measure=>omega
           case rel=>exact⟨P,s',R1.o,r2,R3.o,R4.o,R5.o⟩
          ·have fd:((s7.err:Int)==0)=false:=aX.2 (by omega);clear d l aa da bn S;go_wp2_with fail;go_meet;case rel=>exact⟨row,s7,by rw[ev.o];exact K.o,J.o,ed.o _ _ _ gw.o (.inl ck)⟩
       ·obtain⟨e,a,M,ca,rfl⟩:=az;have jn:=M.ne;obtain⟨_,_,ce,_⟩:=ab.o.H9.cell;have fd:((e:Int)==0)=false:=aX.2 (by omega);have ga:=hide M;clear M;go_wp2_with fail;go_loopg [12] 1 (fun g lv wr=>lv= .slice none 0 0/\wr=dz);case atStart=>exact⟨rfl,rfl⟩
        case round=>
         obtain⟨rfl,ie⟩:=hrel;have ig:=ie.symm;clear ie;subst ig;go_wp2_with fail;go_meet;case rel=>exact⟨[],_,ao.o,ab.o, .inr ⟨e,a,ga.o,ca,rfl⟩⟩
      case rest=>
       obtain⟨row,s7,d,l,cj⟩:=hcut;obtain⟨ea,H⟩:=aP wc;subst H;clear ao ab ec an;obtain⟨_,_,ce,_⟩:=l.H9.cell;rcases cj with⟨q,hq,au,S,ft⟩|⟨e,a,M,ca,au⟩
       ·obtain⟨g,lc,dq,hc⟩:∃g lc,u12= .slice (some (U g 0)) (m1+257+(f1+1)) lc/\m1+257+(f1+1)<=lc:=by
         obtain⟨_,⟨hv,hn⟩|⟨g,cap,kn,hv,_,_,jm,_⟩⟩:=d.own
         ·omega
         ·exact⟨g,cap,by rw[<-S];exact hv,by rw[<-S];exact jm⟩
        have bc:=d.own;rw[dq,S]at bc;have z:Ints ea g 0 row:=⟨fun i hi=>by
         have h9:=bc.cellAt i (by omega);rw[dS,h9];simp[TJ,kE,bV hi],d.aC5,by have:=d.few;omega⟩
        have dm:Off x s.v g:=by
         have B:=l.H9;have ld:=d.lx;have kw:=(bc.lt g rfl).1;exact⟨by omega,fun hk=>by have:=d.lv_ g hk;omega⟩
        subst dq;obtain⟨n,hn⟩:=aP (m1+257+(f1+1));obtain⟨t,hh⟩:=aP (m1+257);rw[<-hn]at hc S|-
        rw[<-hh]at ft hn;have ei:(m1:Int)+257=(t:Int):=(by omega);have fv:(row.take t).length=t:=(by rw[dF];omega);have aq:(row.drop t).length=n-t:=(by rw[dX,S]);have fh:=XU z t;have fg:=WK z t;have ak:=F8 g 0 lc false (row.take t) ea fh;have al:=F8 g t (lc-t) true (row.drop t) ea fg;rw[fv]at ak;rw[aq]at al;have e1:Uv (row.take t) false=fF (row.take t):=rfl;have e2:Uv (row.drop t) true=p9 (row.drop t):=rfl;rw[e1]at ak;rw[e2]at al;have ha:=z.cell 256 (by omega);have dp:=z.le 256;obtain⟨q6,du⟩:=aP (row[256]?.getD 0);rw[<-du,dS]at ha;rw[<-du]at dp;obtain⟨ba,ey⟩:=aP (fF (row.take t));obtain⟨bf,ez⟩:=aP (p9 (row.drop t));rw[<-ey]at ak;rw[<-ez]at al;have kd:(0:Int)<=(t:Int):=(by omega);have kf:(t:Int)<=(lc:Int):=(by omega);have kh:(t:Int)<=(n:Int):=(by omega);have ki:(n:Int)<=(lc:Int):=(by omega);have ko:(256:Int)<(n:Int):=(by omega);have lg:¬lc=0:=(by omega);have lf:¬lc=t:=(by omega);rw[ei];rw[au]at ce;have gj:=hide ak;have gl:=hide al;have dh:=hide fh;have dg:=hide fg;have bz:=hide fv;have am:=hide aq;have J:=hide (show uM w ea x base b s { s with at_:=q } from au▸l);have iz:=hide ft;have gv:=hide du;have eq:=hide ey;have er:=hide ez;have gi:=hide d.aC5;have hm:n<=400:=(by omega);clear ak al fh fg fv aq l au ft du ey ez z bc d S hn hh e1 e2 ei;go_wp2_with fail;apply gj.o.mono;rintro r ll ⟨rfl,rfl⟩;go_wp2_with fail;rw[show n-t=n-t from rfl];apply gl.o.mono;rintro r lm ⟨rfl,rfl⟩;clear gj gl;go_upto_region 23 with fail;go_cut [13,98] (fun av bv wc=>bv= .bool (decide (q6=0)|| !ba|| !bf)/\uM w wc x base b s { s with at_:=q }/\Ints wc g 0 (row.take t)/\Ints wc g t (row.drop t));case first=>
         by_cases ip:q6=0
         ·have jv:((q6:Int)==0)=true:=dI.2 (by omega);have dl:decide (q6=0)=true:=eU ip;go_wp2_with fail;go_meet;case rel=>exact⟨by rw[dl];rfl,J.o,dh.o,dg.o⟩
         ·have jv:((q6:Int)==0)=false:=aX.2 (by omega);have dl:decide (q6=0)=false:=fT ip;cases hva:ba with
          |false=>
           go_wp2_with fail;go_meet;case rel=>exact⟨by rw[dl,hva];rfl,J.o,dh.o,dg.o⟩
          |true=>
           go_wp2_with fail;go_meet;case rel=>exact⟨by rw[dl,hva];simp,J.o,dh.o,dg.o⟩
        case rest=>
         obtain⟨rfl,cb,cn,cl⟩:=hcut;obtain⟨jy,H⟩:=aP wc;subst H;obtain⟨cv,aj⟩:=aP ((decide (q6=0)|| !ba|| !bf));rw[<-aj];have hs:cv=false->0<q6/\ba=true/\bf=true:=fun B=>by
          rw[B]at aj;simp at aj;exact⟨by omega,aj.1.2,aj.2⟩
         have dt:cv=true->¬(0<q6/\ba=true/\bf=true):=fun B hy=>by
          rw[B,hy.2.1,hy.2.2]at aj;simp at aj;omega
         have gt:=hide hs;have gr:=hide dt;have aw:=hide cb;have bu:=hide cn;have br:=hide cl;clear aj hs dt cb cn cl J dh dg;go_upto_if 98 with fail;go_cut [98,100] (fun cc u wc=>∃s8,uM w wc x base b s s8/\Ints wc g 0 (row.take t)/\Ints wc g t (row.drop t)/\((s8={ s with at_:=q }/\0<q6/\ba=true/\bf=true)\/(s8={ s with err:=7,at_:=q }/\¬(0<q6/\ba=true/\bf=true))));case first=>
          cases hcc:cv with
          |false=>
           have et:=hide (gt.o hcc);go_wp2_with fail;go_meet;case rel=>exact⟨_,aw.o,bu.o,br.o, .inl ⟨rfl,et.o⟩⟩
          |true=>
           have et:=hide (gr.o hcc);go_wp2_with fail;apply(iK x base 7 b _ jy aw.o.H9).mono;rintro r ag ⟨rfl,eo,bh⟩;have ep:j6 ag x base b { s with err:=7,at_:=q }:=by
            have h9:=eo;dsimp only at h9;rw[aA h0]at h9;exact h9
           have gz:=hide (show uM w ag x base b s { s with err:=7,at_:=q } from⟨ep,rfl,aw.o.wrt.trans bh⟩);have gh:=hide (bu.o.step bh.step (fun y=>y.elim dm.1 dm.2));have ax:=hide (br.o.step bh.step (fun y=>y.elim dm.1 dm.2));clear eo bh ep;go_wp2_with fail;go_meet;case rel=>exact⟨_,gz.o,gh.o,ax.o, .inr ⟨rfl,et.o⟩⟩
         case rest=>
          obtain⟨s8,cd,co,cm,cp⟩:=hcut;obtain⟨ag,H⟩:=aP wc;subst H;have fb:=xU g 0 lc (row.take t) ag.drew (co.step ((aU (fun _=>False) ag).drew) (fun x=>x));rw[bz.o]at fb;have gb:=hide fb;have ah:=hide cd;have ax:=hide cm;have iu:=hide cp;clear fb cd co cm cp gt gr aw bu br;have fc:=fun eb (h:O ag eb)=>xU g t (lc-t) (row.drop t) eb (ax.o.step h (fun x=>x));rw[am.o]at fc;have gc:=hide fc;clear fc ax;go_wp2_with fail
          go_region_held3 (fun _=>True) (exact bT)
           (first|(go_at_call 167;apply gb.o.mono;clear gb;rintro r eb ⟨C1,rfl,jf,cg,el⟩;have N:=(aU (fun _=>False) ag).drew.trans el;have gd:=hide (gc.o eb N);clear gc)|(go_at_call 167;apply gd.o.mono;clear gd;rintro r bq ⟨C2,rfl,kq,ch,be⟩))
          have bs:=hide (show Mt (bW (bytesOf b) s.at_) x base b s w (.slice (some (U C1 0)) t t) (.slice (some (U C2 0)) (n-t) (n-t)) s8 bq from by
           have ac:uM w bq x base b s s8:=⟨(ah.o.H9.step0 N).step0 be,ah.o.v_,(ah.o.wrt.step0 N).step0 be⟩
           have ej:∀k,ag.heap.size<=k->Off x s.v k:=fun k hk=>by
            have B:=ah.o.H9;have dx:=B.aq4;have dy:=B.af8;refine⟨by omega,fun jj=> ?_⟩;have:=(B.own.lt k (by rw[ah.o.v_];exact jj)).2;omega
           have kl:=N.size;have ka:ag.heap.size<=C1:=jf;have cf:qN bq C1 (row.take t):=by
            show bA bq C1 _ (2*(row.take t).length) _;rw[bz.o];exact cg.step be (fun x=>x)
           have jh:qN bq C2 (row.drop t):=by
            show bA bq C2 _ (2*(row.drop t).length) _;rw[am.o];exact ch
           have bl:∀i:Nat,(row.take t)[i]?.getD 0<=15:=fun i=>by
            by_cases hi:i<t
            ·rw[jQ hi];exact gi.o i
            ·rw[fZ (by rw[bz.o];omega)];simp
           have bm:∀i:Nat,(row.drop t)[i]?.getD 0<=15:=fun i=>by rw[kM];exact gi.o _
           rw[iz.o];unfold pI;rcases iu.o with⟨rfl,k1,k2,k3⟩|⟨rfl,k1⟩
           ·rw[aA ⟨by rw[<-gv.o];exact k1,by rw[<-eq.o];exact k2,by rw[<-er.o];exact k3⟩];refine⟨ac.H9,ac.wrt,rfl,C1,C2,by dsimp only;rw[bz.o],by dsimp only;rw[am.o],⟨cf,jh,ej C1 (by omega),ej C2 (by omega),bl,bm,by dsimp only;rw[bz.o];omega,by dsimp only;rw[am.o];omega,?_,by dsimp only;rw[<-er.o];exact k3⟩⟩;dsimp only;unfold p9;rw[<-eq.o,k2];simp
           ·rw[aB (fun B=>k1 ⟨by rw[gv.o];exact B.1,by rw[eq.o];exact B.2.1,by rw[er.o];exact B.2.2⟩)];exact⟨ac.H9,ac.wrt,by omega,⟨_,_,_,rfl⟩,⟨_,_,_,rfl⟩,q,hq,rfl⟩)
          clear el N be cg ch;go_wp2_with fail;go_ret2;exact⟨_,_,s8,rfl,bs.o⟩
       ·have jn:=M.ne;have fd:((e:Int) !=0)=true:=(by rw[jP];omega);have bs:=hide (Va M (c1:= .slice none 0 0) (c2:= .slice none 0 0) ⟨_,_,_,rfl⟩ ⟨_,_,_,rfl⟩ ca (au▸l.H9) l.wrt);rw[au]at ce;clear M d l au;go_wp2_with fail;go_ret2;exact⟨_,_,rfl,_,bs.o⟩
end Go.Proofs.YtbpahojchgpdnaaGreatDoor
