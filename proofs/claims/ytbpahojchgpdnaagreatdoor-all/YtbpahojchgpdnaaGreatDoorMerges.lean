import Derived.Deep.DeepCutAuto
import Derived.Test.YtbpahojchgpdnaaGreatDoorSortA
set_option maxRecDepth 20000
set_option maxHeartbeats 4000000
set_option linter.all false
namespace Go.Proofs.YtbpahojchgpdnaaGreatDoor
open Go.RowKit Go.Shelf Go.Lib Go.Sort Go.dM Go.Proofs.Tryz
def at1 (n:Nat):Code->Bool
 | .region k _ _=>k==n
 | .seq a _=>at1 n a
 |_=>false
def RZ (n:Nat):Code->Option Code
 | .seq a b=>if at1 n (.seq a b)then some (.seq a b)else match RZ n b with
  |some c=>some c
  |none=>RZ n a
 | .block _ c=>RZ n c
 | .scope c=>RZ n c
 |_=>none
noncomputable def an0:Code:=(f222.body.bind (RZ 41)).getD .skip
set_option maxHeartbeats 8000000 in
set_option maxRecDepth 1000000 in
def Ku (blk off cap a m b s c d n:Nat)(T T2:List Pe)(w0 w2:aH)(k2:a<s/\s<c->Calls prog 222 #[.slice (some (U blk off)) n cap,V a,V s,V c, .func (.func 208) #[] #[]] w2 fun e w'=>e= .returned (.tuple #[])/\mX w0 blk off T w')(ht:¬(a<s/\s<c)->mX w0 blk off T w2)(k3:∀W,mX w0 blk off T W->c<d/\d<b->Calls prog 222 #[.slice (some (U blk off)) n cap,V c,V d,V b, .func (.func 208) #[] #[]] W fun e w'=>e= .returned (.tuple #[])/\mX w0 blk off T2 w')(hu:∀W,mX w0 blk off T W->¬(c<d/\d<b)->mX w0 blk off T2 W)(ho hp hq hr hs dy dz ea eb ec ed ee ef eg eh ei ej ek el em eo ep eq er es et eu ev ew ex ey ez fa fb fc fd fe ff fg fh fi fj fk fl fm fn fo fp fq fr ft fu fv fw fx fy fz ga gb gc gd ge gf gh gi gj gk gl gm gn gp gq gr gs gt gu gv gw gx gy gz ha hb hc hd he hf hg hh hi hj hk l p q r u v w x A B C D F G H I J K L M N P Q R S X Y Z aa ab ac ad ae af ag ah ai aj ak al am an ao ap aq ar au av aw ax ay az ba bb bc be bf bg bh bj bk bl bm bn bo bp bq br bs bt bu bv bw bx bz ca cb cc cd ce cf cg ch cj ck cl cm cn co cp cq cr cs ct cu cv cw cx cy cz da db dc dd de df dg dh dj dk dl dm dn dp dq dr ds dt du dv:aK):an0.wp prog (bodyPost prog f222 (fun e w'=>e= .returned (.tuple #[])/\mX w0 blk off T2 w')) ⟨(List.toArray ((.slice (some (U blk off)) n cap)::(V a)::(V m)::(V b)::(.func (.func 208) #[] #[])::ho::hp::hq::hr::hs::dy::dz::ea::eb::ec::ed::ee::ef::(V c)::eg::(V s)::eh::ei::ej::(V d)::ek::el::em::eo::ep::eq::er::es::et::eu::ev::ew::ex::ey::ez::fa::fb::fc::fd::fe::ff::fg::fh::fi::fj::fk::fl::fm::fn::fo::fp::fq::fr::ft::fu::fv::fw::fx::fy::fz::ga::gb::gc::gd::ge::gf::gh::gi::gj::gk::gl::gm::gn::gp::gq::gr::gs::gt::gu::gv::gw::gx::gy::gz::ha::hb::hc::hd::he::hf::hg::hh::hi::hj::hk::l::p::q::r::u::v::w::x::A::B::C::D::F::G::H::I::J::K::L::M::N::P::Q::R::S::X::Y::Z::aa::ab::ac::ad::ae::af::ag::ah::ai::aj::ak::al::am::an::ao::ap::aq::ar::au::av::aw::ax::ay::az::ba::bb::bc::be::bf::bg::bh::bj::bk::bl::bm::bn::bo::bp::bq::br::bs::bt::bu::bv::bw::bx::bz::ca::cb::cc::cd::ce::cf::cg::ch::cj::ck::cl::cm::cn::co::cp::cq::cr::cs::ct::cu::cv::cw::cx::cy::cz::da::db::dc::dd::de::df::dg::dh::dj::dk::dl::dm::dn::dp::dq::dr::ds::dt::du::dv::[])),[]⟩ w2:=by
 conv=>arg 2;whnf
 go_upto_region 41 with fail;go_cut [199] (fun t wd=>t= .bool (decide (a<s/\s<c))/\wd=w2);case first=>
  by_cases y1:a<s
  ·have dw:(a:Int)<(s:Int):=(by omega);by_cases y2:s<c
   ·have dx:(s:Int)<(c:Int):=(by omega);go_wp2_with fail;go_meet;case rel=>exact⟨by simp[y1,y2],rfl⟩
   ·have dx:¬(s:Int)<(c:Int):=(by omega);go_wp2_with fail;go_meet;case rel=>exact⟨by simp[y1,y2],rfl⟩
  ·have dw:¬(a:Int)<(s:Int):=(by omega);go_wp2_with fail;go_meet;case rel=>exact⟨by simp[y1],rfl⟩
 case rest=>
  obtain⟨rfl,rfl⟩:=hcut;obtain⟨hm,j⟩:=aP (decide (a<s/\s<c));rw[<-j];have g:=hide j;go_upto_if 199 with fail;go_cut [] (fun wd=>mX w0 blk off T wd);case first=>
   cases hm with
   |true=>
    have y:a<s/\s<c:=DW g.o.symm;go_wp2_with (go_at_call 222;apply(k2 y).mono;rintro e w' ⟨rfl,h2⟩);go_meet;case rel=>exact h2
   |false=>
    have y:¬(a<s/\s<c):=of_decide_eq_false g.o.symm;go_wp2_with fail;go_meet;case rel=>exact ht y
  case rest=>
   have k:=hide hcut;clear hcut;obtain⟨w3,hl⟩:=aP wc;rw[<-hl]at k|-
   clear hl;go_upto_region 43 with fail;go_cut [213] (fun t wd=>t= .bool (decide (c<d/\d<b))/\wd=w3);case first=>
    by_cases y1:c<d
    ·have dw:(c:Int)<(d:Int):=(by omega);by_cases y2:d<b
     ·have dx:(d:Int)<(b:Int):=(by omega);go_wp2_with fail;go_meet;case rel=>exact⟨by simp[y1,y2],rfl⟩
     ·have dx:¬(d:Int)<(b:Int):=(by omega);go_wp2_with fail;go_meet;case rel=>exact⟨by simp[y1,y2],rfl⟩
    ·have dw:¬(c:Int)<(d:Int):=(by omega);go_wp2_with fail;go_meet;case rel=>exact⟨by simp[y1],rfl⟩
   case rest=>
    obtain⟨rfl,rfl⟩:=hcut;obtain⟨hn,f⟩:=aP (decide (c<d/\d<b));rw[<-f];have i:=hide f;clear f;cases hn with
    |true=>
     have y:c<d/\d<b:=DW i.o.symm;go_wp2_with (go_at_call 222;apply(k3 _ k.o y).mono;rintro e w' ⟨rfl,h2⟩);go_end0;exact⟨rfl,h2⟩
    |false=>
     have y:¬(c<d/\d<b):=of_decide_eq_false i.o.symm;have z:=hu _ k.o y;go_wp2_with fail;go_end0;exact⟨rfl,z⟩
def as6 (N:Nat):Prop:=∀(blk off cap a m b:Nat) (P L R S l0:List Pe) (w0 w:aH),RowK Pe.enc 2 w0 blk off l0.toArray->l0.length=(P++L++R++S).length->mX w0 blk off (P++L++R++S) w->
 a=P.length->m=P.length+L.length->b=P.length+L.length+R.length->0<L.length->0<R.length->mP L->mP R->L.length+R.length<=N->l0.length<4611686018427387904->
 Calls prog 222 #[.slice (some (U blk off)) l0.length cap,V (a:Nat),V (m:Nat),V (b:Nat),Tx] w fun e w'=>e= .returned (.tuple #[])/\mX w0 blk off (P++iE L R++S) w'
def Pq {A B:List Pe}(h:A=[]\/B=[]):iE A B=A++B:=by
 rcases h with rfl|rfl
 ·rw[kD];rfl
 ·rw[nX];simp
def xG {A:List Pe}(h:A.length=0):A=[]:=kP h
set_option maxHeartbeats 8000000 in
set_option maxRecDepth 1000000 in
def VP (N blk off cap a m b:Nat)(P L R' S u:List Pe)(w0 w:aH)(ih:as6 N)(R:RowK Pe.enc 2 w0 blk off u.toArray)(hs:u.length=(P++L++R'++S).length)(H:mX w0 blk off (P++L++R'++S) w)(ha:a=P.length)(hm:m=P.length+L.length)(hb:b=P.length+L.length+R'.length)(az:2<=L.length)(ba:2<=R'.length)(A:mP L)(B:mP R')(hN:L.length+R'.length<=N+1)(aj:u.length<4611686018427387904):Calls prog 222 #[.slice (some (U blk off)) u.length cap,V a,V m,V b,Tx] w fun e w'=>e= .returned (.tuple #[])/\mX w0 blk off (P++iE L R'++S) w':=by
 have bl:=ay9;have H0:=hide H;have HR:=hide R;have IH:=hide ih;have b1:b<=u.length:=by rw[hs];simp;omega
 have b2:a+2<=m:=by omega
 have b3:m+2<=b:=by omega
 have al:=UH (a:=a) (m:=m) (b:=b) (by omega) (by omega);have ai:=fun s=>Rf (P:=P) (L:=L) (R:=R') (S:=S) (a:=a) (m:=m) (b:=b) (s:=s) A B ha hm hb (by omega) (by omega);obtain⟨d,F⟩:=aP ((a+b)/2);obtain⟨lo,ad⟩:=aP (EI a m b);obtain⟨hi,ab⟩:=aP (MO a m b);rw[<-F,<-ad,<-ab]at al ai;obtain⟨g1,g2,g3,g4,g5⟩:=al;have Q:=hide ai;have bu:a+2<=d:=by omega
 have bv:d+2<=b:=by omega
 have HD:=hide (aQ F (aQ ad ab));have HX:=hide (aQ hs (aQ ha (aQ hm (aQ hb (aQ A (aQ B hN))))));have bw:((a:Int)+(b:Int))/2=(d:Int):=by omega
 have z1:¬IntKind.i64.wrap ((m:Int)-(a:Int))=1:=by rw[dK];omega
 have z2:¬IntKind.i64.wrap ((b:Int)-(m:Int))=1:=by rw[dK];omega
 have z3:¬((m:Int)-(a:Int))=1:=by omega
 have z4:¬((b:Int)-(m:Int))=1:=by omega
 clear H R hs ha hm hb az ba A B hN ai ih F ad ab;unfold Tx;go_enter func222,ntmps222;go_upto_if 140 with fail;have zb:(((m:Int)-(a:Int))==1)=false:=by simp;omega
 have zc:(((b:Int)-(m:Int))==1)=false:=by simp;omega
 rw[zb,zc];go_cut [20,21] (fun s t wc=>s=V (lo:Nat)/\t=V (hi:Nat)/\wc=w);case first=>
  obtain⟨d1,d2,X⟩:=HD.o;unfold EI at d2;unfold MO at X;rw[<-d1]at d2 X;by_cases hc:d<m
  ·have bb:(m:Int)>(d:Int):=(by omega);rw[aA hc]at d2 X;have e2:(lo:Int)=(d:Int)+(m:Int)-(b:Int):=(by omega);have e3:hi=d:=X;have HE:=hide e2;clear d1 d2 X e2;subst e3;go_wp2_with fail;go_meet;case rel=>exact⟨by first|(congr 1;have:=HE.o;omega)|rfl,rfl,rfl⟩
  ·have bb:¬(m:Int)>(d:Int):=(by omega);rw[aB hc]at d2 X;subst d2 X;clear d1;go_wp2_with fail;go_meet;case rel=>exact⟨rfl,rfl,rfl⟩
 case rest=>
  obtain⟨rfl,rfl,rfl⟩:=hcut;obtain⟨w1,bj⟩:=aP wc;subst bj;obtain⟨l,G⟩:=aP (P++L++R'++S);rw[<-G]at H0 Q;have Y:l.length=u.length:=by rw[G];exact HX.o.1.symm
  have HL:=hide (aQ G Y);go_wp2_with fail;obtain⟨pz,ag⟩:∃pz:Nat,(pz:Int)=(d:Int)+(m:Int)-1:=⟨d+m-1,by omega⟩
  rw[<-ag];have HP:=hide ag;clear ag;go_loopg [20,21] (hi-lo) (fun kx s20 s21 wr=>∃s r:Nat,s20=V (s:Nat)/\s21=V r/\lo<=s/\s<=r/\r<=hi/\kx=r-s/\Hid (xY l (d+m) lo hi s r)/\Hid (mX w0 blk off l wr));case atStart=>exact⟨lo,hi,rfl,rfl,by omega,by omega,by omega,rfl,xY.start g2,H0⟩
  case round=>
   clear H0;obtain⟨s,r,rfl,rfl,br,bs,bt,bp,H1,S1⟩:=hrel;by_cases bq:s<r
   ·have ap:(s:Int)<(r:Int):=(by omega);obtain⟨c,hh⟩:=aP ((s+r)/2);have am:s<=c:=(by omega);have an:c<r:=(by omega);obtain⟨q,hq⟩:=aP (d+m-1-c);obtain⟨G,Y⟩:=HL.o;obtain⟨xg,xk,xn,yg,yk,yn,T⟩:=S1.o.test HR.o Y (i:=q) (j:=c) (by omega) (by omega);obtain⟨c1,c2,c3,c4,cl⟩:=T;have e0:((c:Int)).toNat=c:=(by omega);have e1:((q:Int)).toNat=q:=(by omega);have p0:(0:Int)<=(c:Int):=(by omega);have p1:(0:Int)<=(q:Int):=(by omega);have q0:(c:Int)<(u.length:Int):=(by omega);have q1:(q:Int)<(u.length:Int):=(by omega);have hd:((s:Int)+(r:Int))/2=(c:Int):=(by omega);have hw:IntKind.i64.wrap ((pz:Int)-(c:Int))=(q:Int):=(by rw[dK];have:=HP.o;omega);have hr:=OL ((iI l q).c:Int) ((iI l c).c:Int);obtain⟨z,ah⟩:=aP (Lib.compareInt ((iI l q).c:Int) ((iI l c).c:Int));rw[<-ah]at cl hr;have M:=H1.o;obtain⟨hc,aa⟩:∃hc:Int,hc=((iI l c).c:Int):=⟨_,rfl⟩
    obtain⟨yc,ak⟩:∃yc:Int,yc=((iI l q).c:Int):=⟨_,rfl⟩
    rw[<-aa]at c3 cl;rw[<-ak]at c1 cl;by_cases I:z<0
    ·have n1:Hid (xY l (d+m) lo hi s c):=M.down am an (by have:=hr.1 I;rw[<-hq];omega);have bh:decide (z<0)=true:=eU I;clear hh G Y ah aa ak M hr H1 hq;go_wp2_with fail;go_quiet_grown (refine Calls.grown_of (cl _ _));go_wp2_with fail;go_roundg (c-s);case measure=>omega
     case rel=>exact⟨s,c,rfl,by first|rfl|simp|go_num,by omega,by omega,by omega,by omega,n1,S1.o.grown _ _⟩
    ·have n1:Hid (xY l (d+m) lo hi (c+1) r):=M.up am an (by rw[<-hq];intro h9;exact I (hr.2 (by omega)));have bh:decide (z<0)=false:=fT I;clear hh G Y ah aa ak M hr H1 hq;go_wp2_with fail;go_quiet_grown (refine Calls.grown_of (cl _ _));go_wp2_with fail;go_roundg (r-(c+1));case measure=>omega
     case rel=>exact⟨c+1,r,by first|rfl|simp|go_num,rfl,by omega,by omega,by omega,by omega,n1,S1.o.grown _ _⟩
   ·have ap:¬(s:Int)<(r:Int):=(by omega);have ar:r=s:=(by omega);have M:=H1.o;rw[ar]at M;obtain⟨g,f,k,n,v,x,bf,bg,J⟩:=Q.o s M;obtain⟨G,Y⟩:=HL.o;obtain⟨x1,x2,x3,x4,x5,x6,x7⟩:=HX.o;have ao:L.length=g.length+f.length:=(by rw[v];simp);have ac:R'.length=k.length+n.length:=(by rw[x];simp);have S2:mX w0 blk off (P++g++f++k++(n++S)) wr:=by
     have:=S1.o;rw[G,v,x]at this;simpa using this
    have ae:u.length=(P++g++f++k++(n++S)).length:=(by rw[x1,v,x];simp);obtain⟨p,bc⟩:=aP (d+m-s);have A:=x5;rw[v]at A;have B:=x6;rw[x]at B;have w1:=(zD.1 A).1;have w2:=(zD.1 A).2.1;have w3:=(zD.1 B).1;have w4:=(zD.1 B).2.1;have bo:(d:Int)+(m:Int)-(s:Int)=(p:Int):=(by omega);have k1:s<m->m<p->Calls prog 225 #[.slice (some (U blk off)) u.length cap,V (s:Nat),V m,V (p:Nat), .func (.func 208) #[] #[]] wr fun e w'=>e= .returned (.tuple #[])/\mX w0 blk off (P++g++k++f++(n++S)) w':=fun y1 y2=>
     Wp blk off cap s m p (P++g) f k (n++S) u w0 wr _ HR.o ae S2 (by simp;omega) (by simp;omega) (by simp;omega) (by omega) (by omega) aj
    have au:¬(s<m/\m<p)->mX w0 blk off (P++g++k++f++(n++S)) wr:=fun y=>by
     by_cases e:f.length=0
     ·rw[xG e]at S2 |-;simpa using S2
     ·have:k.length=0:=(by omega);rw[xG this]at S2 |-;simpa using S2
    have af:u.length=(P++g++k++(f++n++S)).length:=(by rw[ae];simp;omega);have k2:∀W,mX w0 blk off (P++g++k++f++(n++S)) W->a<s->s<d->Calls prog 222 #[.slice (some (U blk off)) u.length cap,V a,V (s:Nat),V (d:Nat), .func (.func 208) #[] #[]] W fun e w'=>e= .returned (.tuple #[])/\mX w0 blk off (P++iE g k++(f++n++S)) w':=fun W Z y1 y2=>
     IH.o blk off cap a s d P g k (f++n++S) u w0 W HR.o af (by simpa using Z) x2 (by omega) (by omega) (by omega) (by omega) w1 w3 (by omega) aj
    have bk:∀W,mX w0 blk off (P++g++k++f++(n++S)) W->¬(a<s/\s<d)->mX w0 blk off (P++iE g k++(f++n++S)) W:=fun W Z y=>by
     rw[Pq (by
      by_cases e:g.length=0
      ·exact .inl (xG e)
      ·exact .inr (xG (by omega)))]
     simpa using Z
    have aq:u.length=((P++iE g k)++f++n++S).length:=(by rw[af];simp[qE];omega);have fin:P++iE g k++iE f n++S=P++iE L R'++S:=(by rw[J];simp);have k3:∀W,mX w0 blk off (P++iE g k++(f++n++S)) W->d<p->p<b->Calls prog 222 #[.slice (some (U blk off)) u.length cap,V (d:Nat),V (p:Nat),V b, .func (.func 208) #[] #[]] W fun e w'=>e= .returned (.tuple #[])/\mX w0 blk off (P++iE L R'++S) w':=fun W Z y1 y2=>by
     have:=IH.o blk off cap d p b (P++iE g k) f n S u w0 W HR.o aq (by simpa using Z) (by simp[qE];omega) (by simp[qE];omega) (by simp[qE];omega) (by omega) (by omega) w2 w4 (by omega) aj;rw[fin]at this;exact this
    have av:∀W,mX w0 blk off (P++iE g k++(f++n++S)) W->¬(d<p/\p<b)->mX w0 blk off (P++iE L R'++S) W:=fun W Z y=>by
     rw[<-fin,Pq (by
      by_cases e:f.length=0
      ·exact .inl (xG e)
      ·exact .inr (xG (by omega)):f=[]\/n=[])]
     simpa using Z
    have K1:=hide k1;have ax:=hide au;have K2:=hide k2;have K3:=hide k3;have ay:=hide av;have be:p<=b:=(by omega);clear k1 au k2 k3 av ae af aq fin S1 S2 M v x bf bg J G Y x1 x2 x3 x4 x5 x6 x7 ao ac bc A B w1 w2 w3 w4 ar H1 Q HL HX HD;go_upto_region 39 with fail;go_cut [185] (fun t wd=>t= .bool (decide (s<m/\m<p))/\wd=wr);case first=>
     by_cases y1:s<m
     ·have bm:(s:Int)<(m:Int):=(by omega);by_cases y2:m<p
      ·have bn:(m:Int)<(p:Int):=(by omega);go_wp2_with fail;go_meet;case rel=>exact⟨by simp[y1,y2],rfl⟩
      ·have bn:¬(m:Int)<(p:Int):=(by omega);go_wp2_with fail;go_meet;case rel=>exact⟨by simp[y1,y2],rfl⟩
     ·have bm:¬(s:Int)<(m:Int):=(by omega);go_wp2_with fail;go_meet;case rel=>exact⟨by simp[y1],rfl⟩
    case rest=>
     obtain⟨rfl,rfl⟩:=hcut;obtain⟨aw,C⟩:=aP (decide (s<m/\m<p));rw[<-C];have D:=hide C;clear C;go_upto_if 185 with fail;go_cut [] (fun wd=>mX w0 blk off (P++g++k++f++(n++S)) wd);case first=>
      cases aw with
      |true=>
       have y:s<m/\m<p:=DW D.o.symm;go_wp2_with (go_at_call 225;apply(K1.o y.1 y.2).mono;rintro e w' ⟨rfl,h2⟩);go_meet;case rel=>exact h2
      |false=>
       have y:¬(s<m/\m<p):=of_decide_eq_false D.o.symm;go_wp2_with fail;go_meet;case rel=>exact ax.o y
     case rest=>
      rename_i K hK _ _ _ _ _ _ _ _ _ _ _ _ _ _ _ _ _ _ _ _ _ _ _ _ _ _ _ _ _ _ _ _ _ _ _ _ _ _ _ _ _ _ _ _ _ _ _ _ _ _ _ _ _ _ _ _ _ _ _ _ _ _ _ _ _ _ _ _ _ _ _ _ _ _ _ _ _ _ _ _ _ _ _ _ _ _ _ _ _ _ _ _ _ _ _ _ _ _ _ _ _ _ _ _ _ _ _ _ _ _ _ _ _ _ _ _ _ _ _ _ _ _ _ _ _ _ _ _ _ _ _ _ _ _ _ _ _ _ _ _ _ _ _ _ _ _ _ _ _ _ _ _ _ _ _ _ _ _ _ _ _ _ _ _ _ _ _ _ _ _ _ _ _ _ _ _ _ _ _ _ _ _ _ _ _ _ _ _ _ _ _ _ _ _ _ ;refine hK _ _ ?_;exact Ku blk off cap a m b s d p u.length (P++iE g k++(f++n++S)) (P++iE L R'++S) w0 wc (fun y=>K2.o _ hcut y.1 y.2) (fun y=>bk _ hcut y) (fun W h y=>K3.o W h y.1 y.2) ay.o _ _ _ _ _ _ _ _ _ _ _ _ _ _ _ _ _ _ _ _ _ _ _ _ _ _ _ _ _ _ _ _ _ _ _ _ _ _ _ _ _ _ _ _ _ _ _ _ _ _ _ _ _ _ _ _ _ _ _ _ _ _ _ _ _ _ _ _ _ _ _ _ _ _ _ _ _ _ _ _ _ _ _ _ _ _ _ _ _ _ _ _ _ _ _ _ _ _ _ _ _ _ _ _ _ _ _ _ _ _ _ _ _ _ _ _ _ _ _ _ _ _ _ _ _ _ _ _ _ _ _ _ _ _ _ _ _ _ _ _ _ _ _ _ _ _ _ _ _ _ _ _ _ _ _ _ _ _ _ _ _ _ _ _ _ _ _ _ _ _ _ _ _ _ _ _ _ _ _ _ _ _ _ _ _ _ _ _ _ _ _ _ _ _ _ _ _ _ _ _ _ _ _ _ _ _ _ _ _ _ _ _
def Iz {L:List Pe}(h:L.length=1):∃x,L=[x]:=by
 match L,h with
 |[x],_=>exact⟨x,rfl⟩
def IJ:∀N,as6 N
 |0=>fun _ _ _ _ _ _ _ _ _ _ _ _ _ _ _ _ _ _ _ r _ _ _ e _=>by omega
 |N+1=>fun blk off cap a m b P L R S n w0 w f g i j k l r s o d e c=>by
  by_cases p:L.length=1
  ·obtain⟨x,rfl⟩:=Iz p
   exact V9 blk off cap a m b P R S n x w0 w f g i j k l d c
  ·by_cases q:R.length=1
   ·obtain⟨y,rfl⟩:=Iz q
    exact QN blk off cap a m b P L S n y w0 w f g i j k l (by omega) o c
   ·exact VP N blk off cap a m b P L R S n w0 w (IJ N) f g i j k l (by omega) (by omega) o d e c
end Go.Proofs.YtbpahojchgpdnaaGreatDoor
