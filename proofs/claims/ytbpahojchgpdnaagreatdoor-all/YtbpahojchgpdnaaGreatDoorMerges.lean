import Derived.Deep.DeepCutAuto
import Derived.Test.YtbpahojchgpdnaaGreatDoorSortA
set_option maxRecDepth 20000
set_option maxHeartbeats 4000000
set_option linter.all false
namespace Go.Proofs.YtbpahojchgpdnaaGreatDoor
open Go.RowKit Go.Shelf Go.Lib Go.Sort Go.dM Go.Proofs.Tryz
def at1 (n:Nat):Code->Bool
 | .region k _ _=>k==n
 | .seq a _=>at1 n a
 |_=>false
def RZ (n:Nat):Code->Option Code
 | .seq a b=>if at1 n (.seq a b)then some (.seq a b)else match RZ n b with
  |some c=>some c
  |none=>RZ n a
 | .block _ c=>RZ n c
 | .scope c=>RZ n c
 |_=>none
noncomputable def an0:Code:=(f222.body.bind (RZ 41)).getD .skip
set_option maxHeartbeats 8000000 in
set_option maxRecDepth 1000000 in
def Ku (blk off cap a m b s c d n:Nat)(T T2:List Pe)(w0 w2:aH)(k2:a<s/\s<c->Calls prog 222 #[.slice (some (U blk off)) n cap,V a,V s,V c, .func (.func 208) #[] #[]] w2 fun e w'=>e= .returned (.tuple #[])/\mX w0 blk off T w')(ho:¬(a<s/\s<c)->mX w0 blk off T w2)(k3:∀W,mX w0 blk off T W->c<d/\d<b->Calls prog 222 #[.slice (some (U blk off)) n cap,V c,V d,V b, .func (.func 208) #[] #[]] W fun e w'=>e= .returned (.tuple #[])/\mX w0 blk off T2 w')(hq:∀W,mX w0 blk off T W->¬(c<d/\d<b)->mX w0 blk off T2 W)(hp hr ht hu hs gb ey hn ha gw ef gc hd ec gx er fz fy dy ek fv gi gm hb ee fp ft gh fd fx fm eh fg gf gp eu ea fb hf ei gj hg ez el gu fh ew fw gd hc hj eb ex gz ed fr gl ej hl fi em gn fj gs dz eq ga ev hk fq gr gk fe he gq fc hm hh gt fk ep fl fa gv hi fo ge eo ff et fu eg J bw H de cd cu S cs cv ch R ar Z al ck v ax D cc dj bn Y bm l F ag df aa k M dp ba ah I dr af cy w x dn ae dd ay dq db cl N bs bv dt dg am ao be au q P bb bc bo du dl bj cg cm bg ad cq av bk ai ce bz K bt bq cr bl cf bf L cp C dx an ds A bu bp B dh ap dk cw co dw aj u ab ct cz dv ak br cn r ac p cj aq az aw Q ca cb bx G cx da dm:aK):an0.wp prog (bodyPost prog f222 (fun e w'=>e= .returned (.tuple #[])/\mX w0 blk off T2 w')) ⟨(List.toArray ((.slice (some (U blk off)) n cap)::(V a)::(V m)::(V b)::(.func (.func 208) #[] #[])::hp::hr::ht::hu::hs::gb::ey::hn::ha::gw::ef::gc::hd::(V c)::ec::(V s)::gx::er::fz::(V d)::fy::dy::ek::fv::gi::gm::hb::ee::fp::ft::gh::fd::fx::fm::eh::fg::gf::gp::eu::ea::fb::hf::ei::gj::hg::ez::el::gu::fh::ew::fw::gd::hc::hj::eb::ex::gz::ed::fr::gl::ej::hl::fi::em::gn::fj::gs::dz::eq::ga::ev::hk::fq::gr::gk::fe::he::gq::fc::hm::hh::gt::fk::ep::fl::fa::gv::hi::fo::ge::eo::ff::et::fu::eg::J::bw::H::de::cd::cu::S::cs::cv::ch::R::ar::Z::al::ck::v::ax::D::cc::dj::bn::Y::bm::l::F::ag::df::aa::k::M::dp::ba::ah::I::dr::af::cy::w::x::dn::ae::dd::ay::dq::db::cl::N::bs::bv::dt::dg::am::ao::be::au::q::P::bb::bc::bo::du::dl::bj::cg::cm::bg::ad::cq::av::bk::ai::ce::bz::K::bt::bq::cr::bl::cf::bf::L::cp::C::dx::an::ds::A::bu::bp::B::dh::ap::dk::cw::co::dw::aj::u::ab::ct::cz::dv::ak::br::cn::r::ac::p::cj::aq::az::aw::Q::ca::cb::bx::G::cx::da::dm::[])),[]⟩ w2:=by
 conv=>arg 2;whnf
 go_upto_region 41 with fail;go_cut [199] (fun t wd=>t= .bool (decide (a<s/\s<c))/\wd=w2);case first=>
  by_cases y1:a<s
  ·have dc:(a:Int)<(s:Int):=(by omega);by_cases y2:s<c
   ·have bh:(s:Int)<(c:Int):=(by omega);go_wp2_with fail;go_meet;case rel=>exact⟨by simp[y1,y2],rfl⟩
   ·have bh:¬(s:Int)<(c:Int):=(by omega);go_wp2_with fail;go_meet;case rel=>exact⟨by simp[y1,y2],rfl⟩
  ·have dc:¬(a:Int)<(s:Int):=(by omega);go_wp2_with fail;go_meet;case rel=>exact⟨by simp[y1],rfl⟩
 case rest=>
  obtain⟨rfl,rfl⟩:=hcut;obtain⟨fn,g⟩:=aP (decide (a<s/\s<c));rw[<-g];have j:=hide g;go_upto_if 199 with fail;go_cut [] (fun wd=>mX w0 blk off T wd);case first=>
   cases fn with
   |true=>
    have y:a<s/\s<c:=DW j.o.symm;go_wp2_with (go_at_call 222;apply(k2 y).mono;rintro e w' ⟨rfl,h2⟩);go_meet;case rel=>exact h2
   |false=>
    have y:¬(a<s/\s<c):=of_decide_eq_false j.o.symm;go_wp2_with fail;go_meet;case rel=>exact ho y
  case rest=>
   have X:=hide hcut;clear hcut;obtain⟨w3,gy⟩:=aP wc;rw[<-gy]at X|-
   clear gy;go_upto_region 43 with fail;go_cut [213] (fun t wd=>t= .bool (decide (c<d/\d<b))/\wd=w3);case first=>
    by_cases y1:c<d
    ·have dc:(c:Int)<(d:Int):=(by omega);by_cases y2:d<b
     ·have bh:(d:Int)<(b:Int):=(by omega);go_wp2_with fail;go_meet;case rel=>exact⟨by simp[y1,y2],rfl⟩
     ·have bh:¬(d:Int)<(b:Int):=(by omega);go_wp2_with fail;go_meet;case rel=>exact⟨by simp[y1,y2],rfl⟩
    ·have dc:¬(c:Int)<(d:Int):=(by omega);go_wp2_with fail;go_meet;case rel=>exact⟨by simp[y1],rfl⟩
   case rest=>
    obtain⟨rfl,rfl⟩:=hcut;obtain⟨es,f⟩:=aP (decide (c<d/\d<b));rw[<-f];have i:=hide f;clear f;cases es with
    |true=>
     have y:c<d/\d<b:=DW i.o.symm;go_wp2_with (go_at_call 222;apply(k3 _ X.o y).mono;rintro e w' ⟨rfl,h2⟩);go_end0;exact⟨rfl,h2⟩
    |false=>
     have y:¬(c<d/\d<b):=of_decide_eq_false i.o.symm;have z:=hq _ X.o y;go_wp2_with fail;go_end0;exact⟨rfl,z⟩
def as6 (N:Nat):Prop:=∀(blk off cap a m b:Nat) (P L R S l0:List Pe) (w0 w:aH),RowK Pe.enc 2 w0 blk off l0.toArray->l0.length=(P++L++R++S).length->mX w0 blk off (P++L++R++S) w->
 a=P.length->m=P.length+L.length->b=P.length+L.length+R.length->0<L.length->0<R.length->mP L->mP R->L.length+R.length<=N->l0.length<4611686018427387904->
 Calls prog 222 #[.slice (some (U blk off)) l0.length cap,V (a:Nat),V (m:Nat),V (b:Nat),Tx] w fun e w'=>e= .returned (.tuple #[])/\mX w0 blk off (P++iE L R++S) w'
def Pq {A B:List Pe}(h:A=[]\/B=[]):iE A B=A++B:=by
 rcases h with rfl|rfl
 ·rw[kD];rfl
 ·rw[nX];simp
def xG {A:List Pe}(h:A.length=0):A=[]:=kP h
set_option maxHeartbeats 8000000 in
set_option maxRecDepth 1000000 in
def VP (N blk off cap a m b:Nat)(P L R' S u:List Pe)(w0 w:aH)(ih:as6 N)(R:RowK Pe.enc 2 w0 blk off u.toArray)(hs:u.length=(P++L++R'++S).length)(H:mX w0 blk off (P++L++R'++S) w)(ha:a=P.length)(hm:m=P.length+L.length)(hb:b=P.length+L.length+R'.length)(av:2<=L.length)(bk:2<=R'.length)(A:mP L)(B:mP R')(hN:L.length+R'.length<=N+1)(ah:u.length<4611686018427387904):Calls prog 222 #[.slice (some (U blk off)) u.length cap,V a,V m,V b,Tx] w fun e w'=>e= .returned (.tuple #[])/\mX w0 blk off (P++iE L R'++S) w':=by
 have bh:=ay9;have H0:=hide H;have HR:=hide R;have IH:=hide ih;have b1:b<=u.length:=by rw[hs];simp;omega
 have b2:a+2<=m:=by omega
 have b3:m+2<=b:=by omega
 have ak:=UH (a:=a) (m:=m) (b:=b) (by omega) (by omega);have ac:=fun s=>Rf (P:=P) (L:=L) (R:=R') (S:=S) (a:=a) (m:=m) (b:=b) (s:=s) A B ha hm hb (by omega) (by omega);obtain⟨d,F⟩:=aP ((a+b)/2);obtain⟨lo,Q⟩:=aP (EI a m b);obtain⟨hi,aa⟩:=aP (MO a m b);rw[<-F,<-Q,<-aa]at ak ac;obtain⟨g1,g2,g3,g4,g5⟩:=ak;have ag:=hide ac;have br:a+2<=d:=by omega
 have bq:d+2<=b:=by omega
 have HD:=hide (aQ F (aQ Q aa));have HX:=hide (aQ hs (aQ ha (aQ hm (aQ hb (aQ A (aQ B hN))))));have bn:((a:Int)+(b:Int))/2=(d:Int):=by omega
 have z1:¬IntKind.i64.wrap ((m:Int)-(a:Int))=1:=by rw[dK];omega
 have z2:¬IntKind.i64.wrap ((b:Int)-(m:Int))=1:=by rw[dK];omega
 have z3:¬((m:Int)-(a:Int))=1:=by omega
 have z4:¬((b:Int)-(m:Int))=1:=by omega
 clear H R hs ha hm hb av bk A B hN ac ih F Q aa;unfold Tx;go_enter func222,ntmps222;go_upto_if 140 with fail;have zb:(((m:Int)-(a:Int))==1)=false:=by simp;omega
 have zc:(((b:Int)-(m:Int))==1)=false:=by simp;omega
 rw[zb,zc];go_cut [20,21] (fun s t wc=>s=V (lo:Nat)/\t=V (hi:Nat)/\wc=w);case first=>
  obtain⟨d1,d2,d3⟩:=HD.o;unfold EI at d2;unfold MO at d3;rw[<-d1]at d2 d3;by_cases hc:d<m
  ·have bf:(m:Int)>(d:Int):=(by omega);rw[aA hc]at d2 d3;have e2:(lo:Int)=(d:Int)+(m:Int)-(b:Int):=(by omega);have e3:hi=d:=d3;have HE:=hide e2;clear d1 d2 d3 e2;subst e3;go_wp2_with fail;go_meet;case rel=>exact⟨by first|(congr 1;have:=HE.o;omega)|rfl,rfl,rfl⟩
  ·have bf:¬(m:Int)>(d:Int):=(by omega);rw[aB hc]at d2 d3;subst d2 d3;clear d1;go_wp2_with fail;go_meet;case rel=>exact⟨rfl,rfl,rfl⟩
 case rest=>
  obtain⟨rfl,rfl,rfl⟩:=hcut;obtain⟨w1,az⟩:=aP wc;subst az;obtain⟨l,G⟩:=aP (P++L++R'++S);rw[<-G]at H0 ag;have hL:l.length=u.length:=by rw[G];exact HX.o.1.symm
  have HL:=hide (aQ G hL);go_wp2_with fail;obtain⟨pz,X⟩:∃pz:Nat,(pz:Int)=(d:Int)+(m:Int)-1:=⟨d+m-1,by omega⟩
  rw[<-X];have HP:=hide X;clear X;go_loopg [20,21] (hi-lo) (fun kx s20 s21 wr=>∃s r:Nat,s20=V (s:Nat)/\s21=V r/\lo<=s/\s<=r/\r<=hi/\kx=r-s/\Hid (xY l (d+m) lo hi s r)/\Hid (mX w0 blk off l wr));case atStart=>exact⟨lo,hi,rfl,rfl,by omega,by omega,by omega,rfl,xY.start g2,H0⟩
  case round=>
   clear H0;obtain⟨s,r,rfl,rfl,bs,bl,bt,bp,H1,S1⟩:=hrel;by_cases bo:s<r
   ·have al:(s:Int)<(r:Int):=(by omega);obtain⟨c,hh⟩:=aP ((s+r)/2);have an:s<=c:=(by omega);have ai:c<r:=(by omega);obtain⟨q,hq⟩:=aP (d+m-1-c);obtain⟨G,hL⟩:=HL.o;obtain⟨xg,xk,xn,yg,yk,yn,T⟩:=S1.o.test HR.o hL (i:=q) (j:=c) (by omega) (by omega);obtain⟨c1,c2,c3,c4,cl⟩:=T;have e0:((c:Int)).toNat=c:=(by omega);have e1:((q:Int)).toNat=q:=(by omega);have p0:(0:Int)<=(c:Int):=(by omega);have p1:(0:Int)<=(q:Int):=(by omega);have q0:(c:Int)<(u.length:Int):=(by omega);have q1:(q:Int)<(u.length:Int):=(by omega);have hd:((s:Int)+(r:Int))/2=(c:Int):=(by omega);have hw:IntKind.i64.wrap ((pz:Int)-(c:Int))=(q:Int):=(by rw[dK];have:=HP.o;omega);have hr:=OL ((iI l q).c:Int) ((iI l c).c:Int);obtain⟨z,ab⟩:=aP (Lib.compareInt ((iI l q).c:Int) ((iI l c).c:Int));rw[<-ab]at cl hr;have J:=H1.o;obtain⟨hc,af⟩:∃hc:Int,hc=((iI l c).c:Int):=⟨_,rfl⟩
    obtain⟨yc,Z⟩:∃yc:Int,yc=((iI l q).c:Int):=⟨_,rfl⟩
    rw[<-af]at c3 cl;rw[<-Z]at c1 cl;by_cases I:z<0
    ·have n1:Hid (xY l (d+m) lo hi s c):=J.down an ai (by have:=hr.1 I;rw[<-hq];omega);have au:decide (z<0)=true:=eU I;clear hh G hL ab af Z J hr H1 hq;go_wp2_with fail;go_quiet_grown (refine Calls.grown_of (cl _ _));go_wp2_with fail;go_roundg (c-s);case measure=>omega
     case rel=>exact⟨s,c,rfl,by first|rfl|simp|go_num,by omega,by omega,by omega,by omega,n1,S1.o.grown _ _⟩
    ·have n1:Hid (xY l (d+m) lo hi (c+1) r):=J.up an ai (by rw[<-hq];intro h9;exact I (hr.2 (by omega)));have au:decide (z<0)=false:=fT I;clear hh G hL ab af Z J hr H1 hq;go_wp2_with fail;go_quiet_grown (refine Calls.grown_of (cl _ _));go_wp2_with fail;go_roundg (r-(c+1));case measure=>omega
     case rel=>exact⟨c+1,r,by first|rfl|simp|go_num,rfl,by omega,by omega,by omega,by omega,n1,S1.o.grown _ _⟩
   ·have al:¬(s:Int)<(r:Int):=(by omega);have aq:r=s:=(by omega);have J:=H1.o;rw[aq]at J;obtain⟨g,f,n,p,v,x,bb,bc,M⟩:=ag.o s J;obtain⟨G,hL⟩:=HL.o;obtain⟨x1,x2,x3,x4,x5,x6,x7⟩:=HX.o;have ao:L.length=g.length+f.length:=(by rw[v];simp);have ae:R'.length=n.length+p.length:=(by rw[x];simp);have S2:mX w0 blk off (P++g++f++n++(p++S)) wr:=by
     have:=S1.o;rw[G,v,x]at this;simpa using this
    have Y:u.length=(P++g++f++n++(p++S)).length:=(by rw[x1,v,x];simp);obtain⟨k,bj⟩:=aP (d+m-s);have A:=x5;rw[v]at A;have B:=x6;rw[x]at B;have w1:=(zD.1 A).1;have w2:=(zD.1 A).2.1;have w3:=(zD.1 B).1;have w4:=(zD.1 B).2.1;have bm:(d:Int)+(m:Int)-(s:Int)=(k:Int):=(by omega);have k1:s<m->m<k->Calls prog 225 #[.slice (some (U blk off)) u.length cap,V (s:Nat),V m,V (k:Nat), .func (.func 208) #[] #[]] wr fun e w'=>e= .returned (.tuple #[])/\mX w0 blk off (P++g++n++f++(p++S)) w':=fun y1 y2=>
     Wp blk off cap s m k (P++g) f n (p++S) u w0 wr _ HR.o Y S2 (by simp;omega) (by simp;omega) (by simp;omega) (by omega) (by omega) ah
    have ar:¬(s<m/\m<k)->mX w0 blk off (P++g++n++f++(p++S)) wr:=fun y=>by
     by_cases e:f.length=0
     ·rw[xG e]at S2 |-;simpa using S2
     ·have:n.length=0:=(by omega);rw[xG this]at S2 |-;simpa using S2
    have ad:u.length=(P++g++n++(f++p++S)).length:=(by rw[Y];simp;omega);have k2:∀W,mX w0 blk off (P++g++n++f++(p++S)) W->a<s->s<d->Calls prog 222 #[.slice (some (U blk off)) u.length cap,V a,V (s:Nat),V (d:Nat), .func (.func 208) #[] #[]] W fun e w'=>e= .returned (.tuple #[])/\mX w0 blk off (P++iE g n++(f++p++S)) w':=fun W hW y1 y2=>
     IH.o blk off cap a s d P g n (f++p++S) u w0 W HR.o ad (by simpa using hW) x2 (by omega) (by omega) (by omega) (by omega) w1 w3 (by omega) ah
    have aw:∀W,mX w0 blk off (P++g++n++f++(p++S)) W->¬(a<s/\s<d)->mX w0 blk off (P++iE g n++(f++p++S)) W:=fun W hW y=>by
     rw[Pq (by
      by_cases e:g.length=0
      ·exact .inl (xG e)
      ·exact .inr (xG (by omega)))]
     simpa using hW
    have am:u.length=((P++iE g n)++f++p++S).length:=(by rw[ad];simp[qE];omega);have fin:P++iE g n++iE f p++S=P++iE L R'++S:=(by rw[M];simp);have k3:∀W,mX w0 blk off (P++iE g n++(f++p++S)) W->d<k->k<b->Calls prog 222 #[.slice (some (U blk off)) u.length cap,V (d:Nat),V (k:Nat),V b, .func (.func 208) #[] #[]] W fun e w'=>e= .returned (.tuple #[])/\mX w0 blk off (P++iE L R'++S) w':=fun W hW y1 y2=>by
     have:=IH.o blk off cap d k b (P++iE g n) f p S u w0 W HR.o am (by simpa using hW) (by simp[qE];omega) (by simp[qE];omega) (by simp[qE];omega) (by omega) (by omega) w2 w4 (by omega) ah;rw[fin]at this;exact this
    have aj:∀W,mX w0 blk off (P++iE g n++(f++p++S)) W->¬(d<k/\k<b)->mX w0 blk off (P++iE L R'++S) W:=fun W hW y=>by
     rw[<-fin,Pq (by
      by_cases e:f.length=0
      ·exact .inl (xG e)
      ·exact .inr (xG (by omega)):f=[]\/p=[])]
     simpa using hW
    have K1:=hide k1;have ay:=hide ar;have K2:=hide k2;have K3:=hide k3;have ax:=hide aj;have be:k<=b:=(by omega);clear k1 ar k2 k3 aj Y ad am fin S1 S2 J v x bb bc M G hL x1 x2 x3 x4 x5 x6 x7 ao ae bj A B w1 w2 w3 w4 aq H1 ag HL HX HD;go_upto_region 39 with fail;go_cut [185] (fun t wd=>t= .bool (decide (s<m/\m<k))/\wd=wr);case first=>
     by_cases y1:s<m
     ·have bg:(s:Int)<(m:Int):=(by omega);by_cases y2:m<k
      ·have ba:(m:Int)<(k:Int):=(by omega);go_wp2_with fail;go_meet;case rel=>exact⟨by simp[y1,y2],rfl⟩
      ·have ba:¬(m:Int)<(k:Int):=(by omega);go_wp2_with fail;go_meet;case rel=>exact⟨by simp[y1,y2],rfl⟩
     ·have bg:¬(s:Int)<(m:Int):=(by omega);go_wp2_with fail;go_meet;case rel=>exact⟨by simp[y1],rfl⟩
    case rest=>
     obtain⟨rfl,rfl⟩:=hcut;obtain⟨ap,C⟩:=aP (decide (s<m/\m<k));rw[<-C];have D:=hide C;clear C;go_upto_if 185 with fail;go_cut [] (fun wd=>mX w0 blk off (P++g++n++f++(p++S)) wd);case first=>
      cases ap with
      |true=>
       have y:s<m/\m<k:=DW D.o.symm;go_wp2_with (go_at_call 225;apply(K1.o y.1 y.2).mono;rintro e w' ⟨rfl,h2⟩);go_meet;case rel=>exact h2
      |false=>
       have y:¬(s<m/\m<k):=of_decide_eq_false D.o.symm;go_wp2_with fail;go_meet;case rel=>exact ay.o y
     case rest=>
      rename_i K hK _ _ _ _ _ _ _ _ _ _ _ _ _ _ _ _ _ _ _ _ _ _ _ _ _ _ _ _ _ _ _ _ _ _ _ _ _ _ _ _ _ _ _ _ _ _ _ _ _ _ _ _ _ _ _ _ _ _ _ _ _ _ _ _ _ _ _ _ _ _ _ _ _ _ _ _ _ _ _ _ _ _ _ _ _ _ _ _ _ _ _ _ _ _ _ _ _ _ _ _ _ _ _ _ _ _ _ _ _ _ _ _ _ _ _ _ _ _ _ _ _ _ _ _ _ _ _ _ _ _ _ _ _ _ _ _ _ _ _ _ _ _ _ _ _ _ _ _ _ _ _ _ _ _ _ _ _ _ _ _ _ _ _ _ _ _ _ _ _ _ _ _ _ _ _ _ _ _ _ _ _ _ _ _ _ _ _ _ _ _ _ _ _ _ _ ;refine hK _ _ ?_;exact Ku blk off cap a m b s d k u.length (P++iE g n++(f++p++S)) (P++iE L R'++S) w0 wc (fun y=>K2.o _ hcut y.1 y.2) (fun y=>aw _ hcut y) (fun W h y=>K3.o W h y.1 y.2) ax.o _ _ _ _ _ _ _ _ _ _ _ _ _ _ _ _ _ _ _ _ _ _ _ _ _ _ _ _ _ _ _ _ _ _ _ _ _ _ _ _ _ _ _ _ _ _ _ _ _ _ _ _ _ _ _ _ _ _ _ _ _ _ _ _ _ _ _ _ _ _ _ _ _ _ _ _ _ _ _ _ _ _ _ _ _ _ _ _ _ _ _ _ _ _ _ _ _ _ _ _ _ _ _ _ _ _ _ _ _ _ _ _ _ _ _ _ _ _ _ _ _ _ _ _ _ _ _ _ _ _ _ _ _ _ _ _ _ _ _ _ _ _ _ _ _ _ _ _ _ _ _ _ _ _ _ _ _ _ _ _ _ _ _ _ _ _ _ _ _ _ _ _ _ _ _ _ _ _ _ _ _ _ _ _ _ _ _ _ _ _ _ _ _ _ _ _ _ _ _ _ _ _ _ _ _ _ _ _ _ _ _ _
def Iz {L:List Pe}(h:L.length=1):∃x,L=[x]:=by
 match L,h with
 |[x],_=>exact⟨x,rfl⟩
def IJ:∀N,as6 N
 |0=>fun _ _ _ _ _ _ _ _ _ _ _ _ _ _ _ _ _ _ _ r _ _ _ d _=>by omega
 |N+1=>fun blk off cap a m b P L R S f w0 w g n j k l i r s o e d c=>by
  by_cases p:L.length=1
  ·obtain⟨x,rfl⟩:=Iz p
   exact V9 blk off cap a m b P R S f x w0 w g n j k l i e c
  ·by_cases q:R.length=1
   ·obtain⟨y,rfl⟩:=Iz q
    exact QN blk off cap a m b P L S f y w0 w g n j k l i (by omega) o c
   ·exact VP N blk off cap a m b P L R S f w0 w (IJ N) g n j k l i (by omega) (by omega) o e d c
end Go.Proofs.YtbpahojchgpdnaaGreatDoor
