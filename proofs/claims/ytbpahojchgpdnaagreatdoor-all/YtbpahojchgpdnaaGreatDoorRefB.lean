import Derived.Test.YtbpahojchgpdnaaGreatDoorRefA
set_option maxRecDepth 20000
set_option maxHeartbeats 4000000
set_option linter.all false
namespace Go.Proofs.YtbpahojchgpdnaaGreatDoor
open Go.RowKit Go.dM Go.Maps Go.Proofs.Tryz
variable {w:aH} {b:bY} {e used:Nat} {name out:aD}
def VQ (x base M e used:Nat)(b:bY)(out name:aD)(s:XS)(w:aH)(h:GA b x base M w w (KA b M 0 e out used name) e out used name s):Calls prog 114 #[E x] w fun r w'=>r= .returned (.tuple #[])/\∃s',GA b x base M w w' (Jw b M e out used name) e out used name s':=by
 have bg:=aO h.H9.blk;go_enter func114,ntmps114;go_wp2_with fail;obtain⟨F0,Y⟩:=aP w.heap.size;obtain⟨w1,R⟩:=aP (w.alloc (.cells #[V 31,V 139,V 8] 193));have ag:O w w1:=by rw[R];exact(aU _ _).alloc _
 have ai:w1.heap[F0]? =some (.cells #[V 31,V 139,V 8] 193 (0,0)):=by rw[R,Y];exact aR _ _
 have ap:¬F0=x:=by omega
 rw[<-R,<-Y];have bb:∀(wr:aH) (i:Nat),i<3->Step (·=x) w1 wr->wr.cell? (U F0 i)=some (V (Ls i:Nat)):=fun wr i hi hs=>by
  have T:=hs.at_ ai ap;match i,hi with
  |0,_=>exact aC T 0 _ rfl
  |1,_=>exact aC T 1 _ rfl
  |2,_=>exact aC T 2 _ rfl
 have h1:GA b x base M w1 w1 (KA b M 0 e out used name) e out used name s:=⟨h.H9.step0 ag,h.vv,h.oo,h.mm,aU _ _,h.st⟩
 clear R Y ai bg;go_loopg [3] 3 (fun k u3 wr=>∃i:Nat,u3=V (i:Nat)/\k+i=3/\∃s1,GA b x base M w1 wr (KA b M i e out used name) e out used name s1);case atStart=>exact⟨0,rfl,rfl,s,h1⟩
 case round=>
  obtain⟨i,rfl,hk,s1,ab⟩:=hrel;by_cases Q:i<3
  ·obtain⟨c,hc,H⟩:=ab.num 8 (by omega) (fun p nm h _ G=>ak6 Q p nm h G);have bw:(i:Int)<3:=(by omega);have bv:(0:Int)<=(i:Int):=(by omega);clear ab;go_wp2_with fail;apply H.mono;rintro r w2 ⟨rfl,F,f⟩;obtain⟨_,_,e2,_⟩:=f.H9.cell;have bu:=bb w2 i Q f.step;by_cases m:F.err=0
   ·have t:((F.err:Int)==0)=true:=dI.2 (by omega);by_cases hm:c=Ls i
    ·have ba:((c:Int) !=((Ls i:Nat):Int))=false:=(by rw[tY];omega);have g:=hide (f.weaken (fun _ p nm hp h=>aj9 Q hm p nm hp h));clear hm m;go_wp2_with fail;go_roundg (gk-1);case measure=>omega
     case rel=>exact⟨i+1,by simp,by omega,F,g.o⟩
    ·have ba:((c:Int) !=((Ls i:Nat):Int))=true:=(by rw[jP];omega);have X:=hide (f.fail (K':=KA b M (i+1) e out used name) m 4 (by decide) (fun p nm hp h=>av4 Q hm p nm hp h));clear hm m;go_wp2_with fail;apply X.o.mono;rintro r w3 ⟨rfl,s3,v⟩;clear X;go_wp2_with fail;go_roundg (gk-1);case measure=>omega
     case rel=>exact⟨i+1,by simp,by omega,s3,v⟩
   ·have t:((F.err:Int)==0)=false:=aX.2 (by omega);have g:=hide (f.dead (K':=KA b M (i+1) e out used name) m);clear m;go_wp2_with fail;go_roundg (gk-1);case measure=>omega
    case rel=>exact⟨i+1,by simp,by omega,F,g.o⟩
  ·obtain rfl:i=3:=by omega
   obtain⟨c,hc,H⟩:=ab.num 8 (by omega) (fun p nm h _ G=>aq3 p nm h G);go_wp2_with fail;apply H.mono;rintro r w2 ⟨rfl,F,f⟩;have aw:c<256:=hc;obtain⟨_,_,e2,_⟩:=f.H9.cell;obtain⟨B,j⟩:∃B:Bool,B=(decide (F.err=0)&&decide (¬c<32)):=⟨_,rfl⟩
   go_upto_region 8 with fail;go_cut [42] (fun u wc=>u= .bool B/\wc=w2);case first=>
    by_cases m:F.err=0
    ·have t:((F.err:Int)==0)=true:=dI.2 (by omega);by_cases N:c<32
     ·have af:¬32<=(c:Int):=(by omega);have HB:=hide (show B=false by rw[j,eU m,fT (fun y=>y N)];rfl);go_wp2_with fail;go_meet;case rel=>exact⟨by rw[HB.o],rfl⟩
     ·have af:32<=(c:Int):=(by omega);have HB:=hide (show B=true by rw[j,eU m,eU N];rfl);go_wp2_with fail;go_meet;case rel=>exact⟨by rw[HB.o],rfl⟩
    ·have t:((F.err:Int)==0)=false:=aX.2 (by omega);have HB:=hide (show B=false by rw[j,fT m];rfl);go_wp2_with fail;go_meet;case rel=>exact⟨by rw[HB.o],rfl⟩
   case rest=>
    obtain⟨rfl,rfl⟩:=hcut;go_upto_if 42 with fail;go_cut [] (fun wd=>∃s3,GA b x base M w1 wd (Sm b M c e out used name) e out used name s3);case first=>
     cases B with
     |true=>
      have T:=j.symm;rw[DI,DC,DC]at T;have X:=hide (f.fail (K':=Sm b M c e out used name) T.1 4 (by decide) (fun p nm hp h=>ax5 T.2 p nm hp h));clear T j;go_wp2_with fail;apply X.o.mono;rintro r w3 ⟨rfl,s3,v⟩;clear X;go_wp2_with fail;go_meet;case rel=>exact⟨s3,v⟩
     |false=>
      have g:=hide (show GA b x base M w1 wc (Sm b M c e out used name) e out used name F from by
       by_cases m:F.err=0
       ·have N:c<32:=Decidable.byContradiction (fun h=>by
         rw[eU m,eU h]at j;cases j)
        exact f.weaken (fun _ p nm hp h=>ai3 N p nm hp h)
       ·exact f.dead m)
      go_wp2_with fail;go_meet;case rel=>exact⟨F,g.o⟩
    case rest=>
     obtain⟨s3,v⟩:=hcut;obtain⟨bp,_,H⟩:=v.num 48 (by omega) (fun p nm h _ G=>ap0 p nm h G);go_wp2_with fail;apply H.mono;rintro r w4 ⟨rfl,s4,aj⟩;have S:=hide (aj.weaken (fun _ p nm hp h=>ag8 p nm hp h));go_upto_if 50 with fail;go_cut [] (fun wd=>∃s5,GA b x base M w1 wd (Ny b M c e out used name) e out used name s5);case first=>
      by_cases Z:c/4%2=1
      ·have au:((c:Int)/4%2==1)=true:=dI.2 (by omega);obtain⟨n,J,H⟩:=S.o.num 16 (by omega) (fun p nm h _ G=>Wl Z p nm h G);go_wp2_with fail;apply H.mono;rintro r w5 ⟨rfl,s5,z⟩;have ae:=hide (z.weaken (fun _ p nm hp h=>Tz Z p nm hp h));have hn:n<65536:=J;go_wp2_with fail;go_loopg [7] (n+1) (fun k u7 wr=>∃i:Nat,u7=V (i:Nat)/\i<=n/\k+i=n+1/\∃A,GA b x base M w1 wr (Nv b M c (n-i) e out used name) e out used name A);case atStart=>exact⟨0,rfl,iZ _,by omega,s5,ae.o⟩
       case round=>
        obtain⟨i,rfl,bx,bz,A,d⟩:=hrel;obtain⟨_,_,e6,_⟩:=d.H9.cell;by_cases hi:i<n
        ·have ax:(i:Int)<(n:Int):=(by omega);by_cases m:A.err=0
         ·have t:((A.err:Int)==0)=true:=dI.2 (by omega);obtain⟨c8,_,H⟩:=d.num 8 (by omega) (fun p nm h _ G=>am3 (by omega) p nm h G);go_wp2_with fail;apply H.mono;rintro r w7 ⟨rfl,L,a⟩;have g:=hide (a.weaken (K':=Nv b M c (n-(i+1)) e out used name) (fun _ p nm _ h=>by
           have h9:=ai0 (by omega) p nm h;rw[show n-i-1=n-(i+1) by omega]at h9;exact h9))
          go_wp2_with fail;go_roundg (gk-1);case measure=>omega
          case rel=>exact⟨i+1,by simp,by omega,by omega,L,g.o⟩
         ·have t:((A.err:Int)==0)=false:=aX.2 (by omega);have g:=hide (d.dead (K':=Ny b M c e out used name) m);go_wp2_with fail;go_meet;case rel=>exact⟨A,g.o⟩
        ·have ax:¬(i:Int)<(n:Int):=(by omega);have hz:n-i=0:=(by omega);rw[hz]at d;have g:=hide (d.weaken (fun _ p nm hp h=>ay4 p nm hp h));go_wp2_with fail;go_meet;case rel=>exact⟨A,g.o⟩
      ·have au:((c:Int)/4%2==1)=false:=aX.2 (by omega);have g:=hide (S.o.weaken (fun _ p nm _ h=>aB1 Z p nm h));go_wp2_with fail;go_meet;case rel=>exact⟨s4,g.o⟩
     case rest=>
      obtain⟨s5,z⟩:=hcut;go_upto_if 70 with fail;go_cut [] (fun wd=>∃A,GA b x base M w1 wd (RI b M c e out used name) e out used name A);case first=>
       by_cases aa:c/8%2=1
       ·have av:((c:Int)/8%2==1)=true:=dI.2 (by omega);obtain⟨l,az,hT⟩:=z.text (fun p nm l q h ht=>aq7 aa p nm l q h ht);have bc:=z.H9.much;have an:=hide (fun W=>Lu (strOf l) W (by rw[qW];omega));go_wp2_with fail;apply hT.mono;rintro r w6 ⟨rfl,A,d⟩;obtain⟨_,_,e6,_,_,e5⟩:=d.H9.cell;by_cases m:A.err=0
        ·have t:((A.err:Int)==0)=true:=dI.2 (by omega);have ao:=hide (show bytesOf (strOf l)=l from by
          obtain⟨nm,_,p0,_,ht⟩:=d.live m;exact xC l ht.bytes)
         go_wp2_with fail;apply(an.o _).mono;rintro r w7 ⟨rfl,be⟩;rw[ao.o];have a:=d.step0 be;obtain⟨_,_,_,_,_,bq⟩:=a.H9.cell;have bj:=a.H9.free 5;have bo:=aO a.H9.blk;have g:=hide (a.named m (gY l) (K':=RI b M c e out used name) (fun p nm h=>an4 aa l p nm h));go_wp2_with fail;go_meet;case rel=>exact⟨_,g.o⟩
        ·have t:((A.err:Int)==0)=false:=aX.2 (by omega);have g:=hide (d.dead (K':=RI b M c e out used name) m);go_wp2_with fail;go_meet;case rel=>exact⟨A,g.o⟩
       ·have av:((c:Int)/8%2==1)=false:=aX.2 (by omega);have g:=hide (z.weaken (fun _ p nm _ h=>aB6 aa p nm h));go_wp2_with fail;go_meet;case rel=>exact⟨s5,g.o⟩
      case rest=>
       obtain⟨A,d⟩:=hcut;go_upto_if 86 with fail;go_cut [] (fun wd=>∃L,GA b x base M w1 wd (O1 b M c e out used name) e out used name L);case first=>
        by_cases I:c/16%2=1
        ·have ah:((c:Int)/16%2==1)=true:=dI.2 (by omega);obtain⟨l,az,hT⟩:=d.text (fun p nm l q h ht=>aj4 I p nm l q h ht);go_wp2_with fail;apply hT.mono;rintro r w7 ⟨rfl,L,a⟩;have g:=hide (a.weaken (K':=O1 b M c e out used name) (fun _ p nm _ h=>ao9 I l p nm h));go_wp2_with fail;go_meet;case rel=>exact⟨L,g.o⟩
        ·have ah:((c:Int)/16%2==1)=false:=aX.2 (by omega);have g:=hide (d.weaken (fun _ p nm _ h=>az2 I p nm h));go_wp2_with fail;go_meet;case rel=>exact⟨A,g.o⟩
       case rest=>
        obtain⟨L,a⟩:=hcut;have C:=hide (show∀W sE,GA b x base M w1 W (Jw b M e out used name) e out used name sE->GA b x base M w W (Jw b M e out used name) e out used name sE from fun W sE h=>⟨h.H9,h.vv,h.oo,h.mm,(ag.mono (fun _ y=>y.elim)).trans h.step,h.st⟩);obtain⟨_,bs,bt,_⟩:=a.H9.cell;by_cases P:c/2%2=1
        ·have ar:((c:Int)/2%2==1)=true:=dI.2 (by omega);have br:wc.cell? (U x 0)=some (.string b):=a.H9.cell.1;have bf:=a.H9.there;have cc:=a.H9.much;obtain⟨k,al⟩:=aP (L.at_/8);have ay:k<=b.size:=(by omega);have ca:(L.at_:Int)/8=(k:Int):=(by omega);have ad:=hide (fun W=>TU (b.extract 0 k) W (by rw[ByteArray.size_extract];omega));rw[VF]at ad;have HU:=hide (show aL 0 ((bytesOf b).take k)=aL 0 ((bytesOf b).take (L.at_/8)) by rw[al]);have ce:=iW 0 ((bytesOf b).take k);generalize aL 0 ((bytesOf b).take k)=u at*;have bk:(k:Int)<=(b.size:Int):=(by omega);have bl:¬(b.size:Int)<(k:Int):=(by omega);have bm:(0:Int)<=(k:Int):=(by omega);have bn:¬(k:Int)<0:=(by omega);have cb:IntKind.i64.wrap (k:Int)=(k:Int):=(by rw[dK];omega);have cd:=Cn b k ay;clear al bf;go_wp2_with fail
         go_region_with
          (first|(go_at_call 150;apply(ad.o _).mono;rintro r w8 ⟨rfl,rfl⟩))
         all_goals
          have ak:=(a.step0 ((aU (fun _=>False) wc).drew)).pin;obtain⟨n,J,H⟩:=ak.num 16 (by omega) (fun p nm h _ G=>aq5 P p nm h.2 G);have hn:n<65536:=J;go_wp2_with fail;apply H.mono;rintro r w9 ⟨rfl,s9,D⟩;obtain⟨_,_,e9,_⟩:=D.H9.cell;by_cases m:s9.err=0
          ·have t:((s9.err:Int)==0)=true:=dI.2 (by omega);by_cases am:n=u%65536
           ·have aq:((n:Int) !=(u:Int)%65536)=false:=(by rw[tY];omega);have g:=hide (D.weaken (fun _ p nm hp h=>aq0 P HU.o am p nm hp h));go_wp2_with fail;go_end0;exact⟨rfl,s9,C.o _ _ g.o⟩
           ·have aq:((n:Int) !=(u:Int)%65536)=true:=(by rw[jP];omega);have X:=hide (D.fail (K':=Jw b M e out used name) m 12 (by decide) (fun p nm hp h=>av0 P HU.o am p nm hp h));go_wp2_with fail;apply X.o.mono;rintro r cf ⟨rfl,bh,ac⟩;go_wp2_with fail;go_end0;exact⟨rfl,bh,C.o _ _ ac⟩
          ·have t:((s9.err:Int)==0)=false:=aX.2 (by omega);have g:=hide (D.dead (K':=Jw b M e out used name) m);go_wp2_with fail;go_end0;exact⟨rfl,s9,C.o _ _ g.o⟩
        ·have ar:((c:Int)/2%2==1)=false:=aX.2 (by omega);have g:=hide (a.weaken (fun _ p nm _ h=>aB3 P p nm h));go_wp2_with fail;go_end0;exact⟨rfl,L,C.o _ _ g.o⟩
variable {b:bY} {x base M:Nat} {wA w:aH} {K:Nat->aD->Prop} {e:Nat} {out:aD} {used:Nat} {name:aD} {s:XS}
structure GB (b:bY)(x base:Nat)(wA w:aH)(T:Nat->aD->aD->Prop)(e:Nat)(out:aD)(used:Nat)(name:aD)(s:XS):Prop where
 H9:j6 w x base b s
 step:Step (·=x) wA w
 bytes:iR s.out
 len:s.out.length<=1048576
 st:(s.err=0/\s.at_%8=0/\∃nm,s.name=eP nm/\T s.at_ s.out nm)\/(s.err≠0/\e=s.err/\out=s.out/\used=0/\s.name=eP name)
def GEx (e:Nat)(out:aD)(used:Nat)(name:aD)(s:XS):Prop:=s.err=e/\s.out=out/\(e=0->s.at_=8*used)/\s.name=eP name
structure GE (b:bY)(x base:Nat)(wA w:aH)(e:Nat)(out:aD)(used:Nat)(name:aD)(s:XS):Prop where
 H9:j6 w x base b s
 step:Step (·=x) wA w
 fin:GEx e out used name s
def Gx (x base:Nat)(b:bY)(s:XS)(w:aH)(h:j6 w x base b s)(a:s.err≠0):Calls prog 111 #[E x] w fun r w'=>r= .returned (.tuple #[])/\w'=w:=by
 obtain⟨_,_,d,_⟩:=h.cell;have c:((s.err:Int)==0)=false:=aX.2 (by omega);clear h a;go_enter func111,ntmps111;go_wp2_with fail;go_loopg [2] 1 (fun _ l wr=>l=V 0/\wr=w);case atStart=>exact⟨rfl,rfl⟩
 case round=>
  obtain⟨rfl,rfl⟩:=hrel;go_wp2_with fail;go_end0;exact⟨rfl,rfl⟩
def GA.blocks (D:oL)(h:GA b x base M wA w K e out used name s)(C:M<=1048576){T:Nat->aD->aD->Prop}(B:∀p nm,K p nm->∃n c o1 j,eZ (bytesOf b) n (qJ M p) c o1 j/\if c=0 then T j o1 nm else e=c/\out=o1/\used=0/\name=nm):Calls prog 111 #[E x] w fun r w'=>r= .returned (.tuple #[])/\∃s',GB b x base wA w' T e out used name s':=by
 by_cases f:s.err=0
 ·obtain⟨nm,k2,d⟩:=h.live f;obtain⟨n,c,o1,j,t,a⟩:=B _ _ d;obtain⟨r1,L,N⟩:=OP t;refine(MW x base n c b s (qJ M s.at_) o1 j w D h.H9 f (by rw[h.mm];exact C) (by rw[h.oo];exact iZ _) ⟨by rw[h.oo];rfl,by rw[h.mm];rfl,rfl,rfl⟩ t).mono ?_;rintro r w1 ⟨rfl,s',l,i,u,o,v,z⟩;have m:Step (·=x) wA w1:=h.step.trans (z.step.mono (fun k y=>by
   rcases y with y|y
   ·exact y
   ·rw[h.vv]at y;cases y))
  refine⟨rfl,s',v,m,by rw[i];exact r1,by rw[i];omega,?_⟩;by_cases g:c=0
  ·rw[aA g]at a;obtain⟨q,A⟩:=u g;exact .inl ⟨l.trans g,by rw[q];exact A,nm,o.trans k2,by rw[q,i];exact a⟩
  ·rw[aB g]at a;obtain⟨G,H,I,J⟩:=a;exact .inr ⟨by rw[l];exact g,by rw[l];exact G,by rw[i];exact H,I,by rw[o,k2,J]⟩
 ·apply(Gx x base b s w h.H9 f).mono;rintro r w1 ⟨rfl,rfl⟩;refine⟨rfl,s,h.H9,h.step,by rw[h.oo];intro y F;simp at F,by rw[h.oo];exact iZ _,?_⟩;rcases h.st with⟨y,_⟩|⟨_,nm,k2,d⟩
  ·exact absurd y f
  ·exact .inr ⟨f,d.1,by rw[h.oo];exact d.2.1,d.2.2.1,by rw[k2,d.2.2.2]⟩
def Qi {x:Nat}{w':aH}{v:aK}{wA:aH}(h:dH x w v w' v)(hs:Step (·=x) wA w)(a:∀k,v.ownBlock=some k->wA.heap.size<=k):Step (·=x) wA w':=
 hs.trans' h.step (fun k hk y=>by
  rcases y with y|y
  ·exact y
  ·have:=a k y;omega)
def Ri (b:bY)(s:XS)(c:s.err=0)(i:s.at_%8=0)(g:s.at_<=8*b.size)(hn:s.name=eP name)(a:I7 (bytesOf b) s.at_ s.out e out used):GEx e out used name (vI b s):=by
 obtain⟨f,a⟩:=a;rw[bytesOf_length]at a;unfold vI;by_cases hp:s.at_+32<=8*b.size
 ·rw[aA hp]at a;rw[Pw b s c 4 hp];dsimp only;by_cases d:jB (bytesOf b) s.at_ 4=dZ 1 s.out
  ·rw[aA d]at a;rw[eU d];show GEx e out used name (eO false 12 _);rw[mY];exact⟨c.trans a.1.symm,f.symm,fun _=>by show s.at_+8*4=_;omega,hn⟩
  ·rw[aB d]at a;rw[fT d];show GEx e out used name (eO true 12 _);rw[jF (by exact c)];exact⟨a.1.symm,f.symm,fun y=>by omega,hn⟩
 ·rw[aB hp]at a;rw[Uk b s c g 4 (by omega),iG (by show(3:Nat)≠0;decide)];exact⟨a.1.symm,f.symm,fun y=>by omega,hn⟩
def Ji (b:bY)(s:XS)(a:s.err≠0)(c:e=s.err)(d:out=s.out)(hn:s.name=eP name):GEx e out used name (vI b s):=by unfold vI;rw[Yg b s a 4,iG a];exact⟨c.symm,d.symm,fun y=>by omega,hn⟩
def Ui (b:bY)(s:XS)(nm:aD)(d:s.err=0)(t:s.at_%8=0)(m:s.at_<=8*b.size)(hn:s.name=eP nm)(a:pF (bytesOf b) s.at_ s.out nm e out used name):GEx e out used name (uE b s):=by
 unfold pF at a;rw[bytesOf_length]at a;unfold uE;have j:(s.at_+32<=8*b.size/\aG (bytesOf b) s.at_ 32=aL 0 s.out/\nJ b s={ s with at_:=s.at_+32 })\/((nJ b s).err=e/\(nJ b s).err≠0/\(nJ b s).out=out/\(nJ b s).name=eP name):=by
  unfold nJ;by_cases hp:s.at_+32<=8*b.size
  ·rw[aA hp]at a;rw[jH b s d 32 hp];dsimp only;by_cases i:aG (bytesOf b) s.at_ 32=aL 0 s.out
   ·rw[eU i];exact .inl ⟨hp,i,mY⟩
   ·rw[aB i]at a;rw[fT i];refine .inr ?_;show(eO true 12 _).err=e/\_;rw[show eO (!false) 12 { s with at_:=s.at_+32 }={ s with at_:=s.at_+32,err:=12 } from jF (s:={ s with at_:=s.at_+32 }) d,show eO true 12 { s with at_:=s.at_+32 }={ s with at_:=s.at_+32,err:=12 } from jF (s:={ s with at_:=s.at_+32 }) d];exact⟨a.1.symm,by show(12:Nat)≠0;decide,a.2.1.symm,by show s.name=_;rw[hn,a.2.2.2]⟩
  ·rw[aB hp]at a;rw[j3 b s d m 32 (by omega),iG (by show(3:Nat)≠0;decide)];exact .inr ⟨a.1.symm,by show(3:Nat)≠0;decide,a.2.1.symm,by show s.name=_;rw[hn,a.2.2.2]⟩
 rcases j with⟨hp,i,r⟩|⟨o,n,p,q⟩
 ·rw[aA hp,aA i]at a;obtain⟨l,k,a⟩:=a;rw[bytesOf_length]at a;have f:s.name=eP name:=by rw[hn,k]
  rw[r];by_cases g:s.at_+32+32<=8*b.size
  ·rw[aA g]at a;rw[jH b { s with at_:=s.at_+32 } d 32 g];dsimp only;by_cases c:aG (bytesOf b) (s.at_+32) 32=s.out.length
   ·rw[aA c]at a;rw[eU c];show GEx e out used name (eO false 12 _);rw[mY];exact⟨d.trans a.1.symm,l.symm,fun _=>by show s.at_+32+32=_;omega,f⟩
   ·rw[aB c]at a;rw[fT c];show GEx e out used name (eO true 12 _);rw[jF (by exact d)];exact⟨a.1.symm,l.symm,fun y=>by omega,f⟩
  ·rw[aB g]at a;rw[j3 b { s with at_:=s.at_+32 } d hp 32 (by show _<s.at_+32+32;omega),iG (by show(3:Nat)≠0;decide)];exact⟨a.1.symm,l.symm,fun y=>by omega,f⟩
 ·rw[oD b _ n 32,iG n];exact⟨o,p,fun y=>by omega,q⟩
def Mg (b:bY)(s:XS)(a:s.err≠0)(d:e=s.err)(f:out=s.out)(hn:s.name=eP name):GEx e out used name (uE b s):=by
 have c:nJ b s=s:=by unfold nJ;rw[oD b s a 32,iG a]
 unfold uE;rw[c,oD b s a 32,iG a];exact⟨d.symm,f.symm,fun y=>by omega,hn⟩
def GB.aD3 (h:GB b x base wA w (fun q o nm=>nm=[]/\name=[]/\I7 (bytesOf b) q o e out used) e out used name s)(a:wA.heap.size<=base):Calls prog 113 #[E x] w fun r w'=>r= .returned (.tuple #[])/\∃s',GE b x base wA w' e out used name s':=by
 apply(V4 x base b s w h.H9 h.bytes h.len).mono;rintro r w1 ⟨rfl,g,i⟩;refine⟨rfl,_,g,Qi i h.step (fun k hk=>bB a (h.H9.own.lt k hk).1),?_⟩;rcases h.st with⟨k1,j,nm,k2,c,f,d⟩|⟨k1,k2,c,f,d⟩
 ·exact Ri b s k1 j h.H9.there (by rw[k2,c,f]) d
 ·exact Ji b s k1 k2 c d
def GB.aD1 (h:GB b x base wA w (fun q o nm=>pF (bytesOf b) q o nm e out used name) e out used name s)(a:wA.heap.size<=base):Calls prog 115 #[E x] w fun r w'=>r= .returned (.tuple #[])/\∃s',GE b x base wA w' e out used name s':=by
 apply(VJ x base b s w h.H9 h.bytes h.len).mono;rintro r w1 ⟨rfl,d,f⟩;refine⟨rfl,_,d,Qi f h.step (fun k hk=>bB a (h.H9.own.lt k hk).1),?_⟩;rcases h.st with⟨k1,i,nm,k2,c⟩|⟨k1,k2,c,j,g⟩
 ·exact Ui b s nm k1 i h.H9.there k2 c
 ·exact Mg b s k1 k2 c g
def Vm (b:bY)(s:XS)(c:s.err=0)(o:s.at_=0)(a:xO (bytesOf b) M e out used):((o7 b s).err=0/\Gd (bytesOf b) M (o7 b s).at_ e out used)\/((o7 b s).err≠0/\e=(o7 b s).err/\out=[]/\used=0):=by
 unfold xO at a;rw[bytesOf_length]at a;have j:(0+8<=8*b.size/\vT (aG (bytesOf b) 0 8)/\(cB b s 8).1=aG (bytesOf b) 0 8/\qX b s={ s with at_:=0+8 })\/((qX b s).err≠0/\e=(qX b s).err/\out=[]/\used=0):=by
  unfold qX;by_cases hp:0+8<=8*b.size
  ·rw[aA hp]at a;have k:=jH b s c 8 (by omega);rw[k];dsimp only;rw[o];by_cases f:vT (aG (bytesOf b) 0 8)
   ·rw[eU f];exact .inl ⟨hp,f,rfl,mY⟩
   ·rw[aB f]at a;rw[fT f];refine .inr ?_;rw[show eO (!false) 4 { s with at_:=0+8 }={ s with at_:=0+8,err:=4 } from jF (s:={ s with at_:=0+8 }) c];exact⟨by show(4:Nat)≠0;decide,a.1,a.2.1,a.2.2⟩
  ·rw[aB hp]at a;rw[j3 b s c (by omega) 8 (by omega),iG (by show(3:Nat)≠0;decide)];exact .inr ⟨by show(3:Nat)≠0;decide,a.1,a.2.1,a.2.2⟩
 unfold o7;rcases j with⟨hp,f,p,q⟩|⟨i,l,m,n⟩
 ·rw[aA hp,aA f]at a;unfold UK at a;rw[bytesOf_length]at a;rw[q,p];by_cases d:0+8+8<=8*b.size
  ·rw[aA d]at a;rw[jH b { s with at_:=0+8 } c 8 d];dsimp only;by_cases g:zC (aG (bytesOf b) 0 8) (aG (bytesOf b) (0+8) 8)
   ·rw[aA g]at a;rw[eU g,show eO (!true) 4 { s with at_:=0+8+8 }={ s with at_:=0+8+8 } from mY];exact .inl ⟨c,a⟩
   ·rw[aB g]at a;rw[fT g,show eO (!false) 4 { s with at_:=0+8+8 }={ s with at_:=0+8+8,err:=4 } from jF (s:={ s with at_:=0+8+8 }) c];exact .inr ⟨by show(4:Nat)≠0;decide,a.1,a.2.1,a.2.2⟩
  ·rw[aB d]at a;rw[j3 b { s with at_:=0+8 } c hp 8 (by show _<0+8+8;omega),iG (by show(3:Nat)≠0;decide)];exact .inr ⟨by show(3:Nat)≠0;decide,a.1,a.2.1,a.2.2⟩
 ·rw[oD b _ i 8,iG i];exact .inr ⟨i,l,m,n⟩
def ae5 (b:bY)(s:XS):(o7 b s).v=s.v/\(o7 b s).out=s.out/\(o7 b s).name=s.name/\(o7 b s).most=s.most:=by
 have a:(qX b s).v=s.v/\(qX b s).out=s.out/\(qX b s).name=s.name/\(qX b s).most=s.most:=by
  unfold qX;obtain⟨a1,a2,c,d,_⟩:=Ic (!decide (vT (cB b s 8).1)) 4 (cB b s 8).2;obtain⟨c1,c2,c3,c4⟩:=pW b s 8;exact⟨a1.trans c1,a2.trans c2,c.trans c4,d.trans c3⟩
 unfold o7;obtain⟨a1,a2,c,d,_⟩:=Ic (!decide (zC (cB b s 8).1 (cB b (qX b s) 8).1)) 4 (cB b (qX b s) 8).2;obtain⟨c1,c2,c3,c4⟩:=pW b (qX b s) 8;exact⟨a1.trans (c1.trans a.1),a2.trans (c2.trans a.2.1),c.trans (c4.trans a.2.2.1),d.trans (c3.trans a.2.2.2)⟩
def Bb (most M:Int)(b:bY)(w:aH)(K:Nat->aD->Prop)(e:Nat)(out:aD)(used:Nat)(name:aD)(o:b.size<=140737488351232)(m:M=(asked most:Nat))(l:K 0 [])(W:aH)(f:W=((w.alloc (.cells #[V 0, .slice none 0 0,V 0, .string ⟨#[]⟩] 45)).alloc (.cells #[.string b,V 0,V 0, .slice none 0 0,V M, .string ⟨#[]⟩] 167))):GA b (w.heap.size+1) (w.heap.size+1+1) (asked most) W W K e out used name ⟨0,0, .slice none 0 0,[],asked most,⟨#[]⟩⟩/\W.heap.size=w.heap.size+1+1/\W.heap[w.heap.size]? =some (.cells #[V 0, .slice none 0 0,V 0, .string ⟨#[]⟩] 45 (0,0))/\O w W:=by
 obtain⟨w1,a⟩:=aP (w.alloc (.cells #[V 0, .slice none 0 0,V 0, .string ⟨#[]⟩] 45));have d:w1.heap.size=w.heap.size+1:=by rw[a];simp
 have g:w1.heap[w.heap.size]? =some (.cells #[V 0, .slice none 0 0,V 0, .string ⟨#[]⟩] 45 (0,0)):=by rw[a];exact aR _ _
 have i:O w w1:=by rw[a];exact(aU _ _).alloc _
 rw[<-a]at f;have k:W.heap.size=w.heap.size+1+1:=by rw[f];simp[d]
 have c:O w1 W:=by rw[f];exact(aU _ _).alloc _
 have j:W.heap[w.heap.size+1]? =some (.cells #[.string b,V 0,V 0, .slice none 0 0,V M, .string ⟨#[]⟩] 167 (0,0)):=by rw[f,<-d];exact aR _ _
 have n:j6 W (w.heap.size+1) (w.heap.size+1+1) b ⟨0,0, .slice none 0 0,[],asked most,⟨#[]⟩⟩:=
  ⟨by rw[j,m];rfl,jJ _ _ _ _,by omega,by omega,iZ _,o⟩
 exact⟨⟨n,rfl,rfl,rfl,aU _ _, .inl ⟨rfl,[],rfl,l⟩⟩,k,c.at_ g (fun y=>y),i.trans c⟩
structure UE (w w':aH)(b:bY)(e:Nat)(out:aD)(used:Nat)(name:aD)(s':XS):Prop where
 fin:GEx e out used name s'
 H9:j6 w' (w.heap.size+1) (w.heap.size+1+1) b s'
 res:w'.heap[w.heap.size]? =some (.cells #[V 0, .slice none 0 0,V 0, .string ⟨#[]⟩] 45 (0,0))
 step:O w w'
def UE.row {w1:aH}{s':XS}(h:UE w w1 b e out used name s'){f:Option Addr}{g len:Nat}(n:s'.v= .slice f len g)(i j k l:aK)(o:Obj):((((((w1.setCell (U w.heap.size 0) i).setCell (U w.heap.size 1) j).setCell (U w.heap.size 2) k).setCell (U w.heap.size 3) l).alloc o).drew).ownsRow w.heap.size 5 1 (.slice f len g) out.length (jR out):=by
 have d:=h.H9.own;rw[n,h.fin.2.1]at d;have c:(Value.slice f len g).ownBlock≠some w.heap.size:=fun hk=>by
  have:=(d.lt _ hk).1;omega
 have m:=bH d (show w.heap.size<=w.heap.size+1+1 by omega);exact(((mI (mI (mI (mI m (a:=(U w.heap.size 0)) c i) (a:=(U w.heap.size 1)) c j) (a:=(U w.heap.size 2)) c k) (a:=(U w.heap.size 3)) c l))).alloc o
def UE.far {w1:aH}{s':XS}(h:UE w w1 b e out used name s')(a c d f:aK)(o:Obj):O w (((((w1.setCell (U w.heap.size 0) a).setCell (U w.heap.size 1) c).setCell (U w.heap.size 2) d).setCell (U w.heap.size 3) f).alloc o).drew:=(((((h.step.aZ (aS _) _).aZ (aS _) _).aZ (aS _) _).aZ (aS _) _).alloc _).drew
def GE.ue {W w':aH}{s':XS}(h:GE b (w.heap.size+1) (w.heap.size+1+1) W w' e out used name s')(a:W.heap[w.heap.size]? =some (.cells #[V 0, .slice none 0 0,V 0, .string ⟨#[]⟩] 45 (0,0)))(hs:O w W):UE w w' b e out used name s':=⟨h.fin,h.H9,h.step.at_ a (by omega),hs.trans' h.step (fun k hk y=>by omega)⟩
def FP (most:Int):(most<0/\(0:Int)=(asked most:Nat))\/(¬most<0/\1048576<most/\(1048576:Int)=(asked most:Nat))\/(¬most<0/\¬1048576<most/\most=(asked most:Nat)):=by
 by_cases a:most<0
 ·exact .inl ⟨a,by unfold asked;rw[aA a];rfl⟩
 ·by_cases c:1048576<most
  ·exact .inr (.inl ⟨a,c,by unfold asked;rw[aB a,aA c];rfl⟩)
  ·exact .inr (.inr ⟨a,c,by unfold asked;rw[aB a,aB c];omega⟩)
def ax4 (e:Nat)(most M:Int)(b:bY)(out:aD)(used:Nat)(w:aH)(B:oL)(D:b.size<=140737488351232)(F:xO (bytesOf b) (asked most) e out used)(A:M=(asked most:Nat))(W:aH)(C:W=((w.alloc (.cells #[V 0, .slice none 0 0,V 0, .string ⟨#[]⟩] 45)).alloc (.cells #[.string b,V 0,V 0, .slice none 0 0,V M, .string ⟨#[]⟩] 167))):Calls prog 112 #[.pointer (some ⟨w.heap.size+1,0,none⟩)] W fun r l=>r= .returned (.tuple #[])/\Calls prog 111 #[.pointer (some ⟨w.heap.size+1,0,none⟩)] l fun r v=>r= .returned (.tuple #[])/\Calls prog 113 #[.pointer (some ⟨w.heap.size+1,0,none⟩)] v fun r w1=>r= .returned (.tuple #[])/\∃s',UE w w1 b e out used [] s':=by
 obtain⟨d,N,j,k⟩:=Bb most M b w (fun _ _=>True) e out used [] D A bT W C;apply(V5 _ _ b _ W d.H9).mono;rintro r l ⟨rfl,y,z⟩;obtain⟨v1,J,u,L⟩:=ae5 b ⟨0,0, .slice none 0 0,[],asked most,⟨#[]⟩⟩;have c:GA b (w.heap.size+1) (w.heap.size+1+1) (asked most) W l (fun p nm=>nm=[]/\Gd (bytesOf b) (asked most) p e out used) e out used [] (o7 b ⟨0,0, .slice none 0 0,[],asked most,⟨#[]⟩⟩):=by
  refine⟨y,v1,J,L,JJ z rfl,?_⟩;rcases Vm b ⟨0,0, .slice none 0 0,[],asked most,⟨#[]⟩⟩ rfl rfl F with⟨k1,k2⟩|⟨k1,k2,G,H⟩
  ·exact .inl ⟨k1,[],u,rfl,k2⟩
  ·exact .inr ⟨k1,[],u,k2,G,H,rfl⟩
 refine⟨rfl,(c.blocks B (vW most) (T:=fun q o nm=>nm=[]/\([]:aD)=[]/\I7 (bytesOf b) q o e out used) (fun p nm h=> ?_)).mono ?_⟩
 ·obtain⟨rfl,n,m,o1,I,i,a⟩:=h;refine⟨n,m,o1,I,i,?_⟩;by_cases t:m=0
  ·rw[aA t]at a|-
   exact⟨rfl,rfl,a⟩
  ·rw[aB t]at a|-
   exact⟨a.1,a.2.1,a.2.2,rfl⟩
 ·rintro r v ⟨rfl,P,f⟩;refine⟨rfl,(f.aD3 (by omega)).mono ?_⟩;rintro r w1 ⟨rfl,s',g⟩;exact⟨rfl,s',g.ue j k⟩
def Ee (e:Nat)(most:Int)(b:bY)(out:aD)(used:Nat)(w:aH)(R:oL)(T:b.size<=140737488351232)(A:xO (bytesOf b) (asked most) e out used)(B:e≠0->used=0):Calls prog 67 #[V 1, .string b,V most] w fun r w'=>∃H,r= .returned (.agg #[V e,H,V used, .string (eP [])])/\w'.ownsRow w.heap.size 5 1 H out.length (jR out)/\O w w':=by
 have g:=hide (fun M Q W S=>ax4 e most M b out used w R T A Q W S);have J:=hide B;clear A B;go_enter func67,ntmps67;rcases FP most with⟨z,k⟩|⟨z,N,k⟩|⟨z,N,k⟩
 all_goals
  have I:=hide (g.o _ k _ rfl);clear g k;go_wp2_with fail;apply I.o.mono;rintro r wa ⟨rfl,p⟩;go_wp2_with fail;apply p.mono;rintro r wb ⟨rfl,i⟩;have d:=hide i;clear i;go_wp2_with fail;apply d.o.mono;rintro r w1 ⟨rfl,s',a⟩;clear d;obtain⟨Z,c1,c2,c3,c4,L⟩:=a.H9.cell;obtain⟨m,n,l⟩:=a.H9.vQ;rw[l]at c3;rw[a.fin.2.2.2]at L;rw[a.fin.1]at c2;have j:=aO a.res;have Y:=aO a.H9.blk;have C:w1.cell? (U w.heap.size 0)=some (V 0):=aC a.res 0 _ rfl;have D:w1.cell? (U w.heap.size 1)=some (.slice none 0 0):=aC a.res 1 _ rfl;have F:w1.cell? (U w.heap.size 2)=some (V 0):=aC a.res 2 _ rfl;have G:w1.cell? (U w.heap.size 3)=some (.string ⟨#[]⟩):=aC a.res 3 _ rfl;have g0:=aJ a.res 0;have g1:=aJ a.res 1;have g2:=aJ a.res 2;have g3:=aJ a.res 3;obtain⟨len,c⟩:=aP s'.out.length;rw[<-c]at c3 l;have u:=hide c;have y:=hide l;have f:=hide a;have X:=a.H9.there;clear a c l;by_cases q:e=0
  ·have t:((e:Int)==0)=true:=dI.2 (by omega);go_wp2_with fail;go_region;go_wp2_with fail;refine aY (v:= .agg #[V 0, .slice m len n,V ((s'.at_:Int)/8), .string (eP [])]) (by simp[results,results67,go_sem,C,D,F,G,j]) rfl ⟨.slice m len n,?_,f.o.row y.o _ _ _ _ _,f.o.far _ _ _ _ _⟩;have P:=f.o.fin.2.2.1 q;rw[q,show((s'.at_:Int)/8)=((used:Nat):Int) by rw[P];omega];rfl
  ·have t:((e:Int)==0)=false:=aX.2 (by omega);go_wp2_with fail;go_region;go_wp2_with fail;refine aY (v:= .agg #[V e, .slice m len n,V 0, .string (eP [])]) (by simp[results,results67,go_sem,C,D,F,G,j]) rfl ⟨.slice m len n,?_,f.o.row y.o _ _ _ _ _,f.o.far _ _ _ _ _⟩;rw[J.o q];rfl
def ax7 (e:Nat)(most M:Int)(b:bY)(out:aD)(used:Nat)(name:aD)(w:aH)(m:oL)(t:b.size<=140737488351232)(u:xA (bytesOf b) (asked most) e out used name)(l:M=(asked most:Nat))(W:aH)(n:W=((w.alloc (.cells #[V 0, .slice none 0 0,V 0, .string ⟨#[]⟩] 45)).alloc (.cells #[.string b,V 0,V 0, .slice none 0 0,V M, .string ⟨#[]⟩] 167))):Calls prog 114 #[.pointer (some ⟨w.heap.size+1,0,none⟩)] W fun r j=>r= .returned (.tuple #[])/\Calls prog 111 #[.pointer (some ⟨w.heap.size+1,0,none⟩)] j fun r k=>r= .returned (.tuple #[])/\Calls prog 115 #[.pointer (some ⟨w.heap.size+1,0,none⟩)] k fun r w1=>r= .returned (.tuple #[])/\∃s',UE w w1 b e out used name s':=by obtain⟨c,v,g,i⟩:=Bb most M b w (KA b (asked most) 0 e out used name) e out used name t l ⟨rfl,rfl,u⟩ W n;apply(VQ _ _ (asked most) e used b out name _ W c).mono;rintro r j ⟨rfl,y,a⟩;refine⟨rfl,(a.blocks m (vW most) (T:=fun q o nm=>pF (bytesOf b) q o nm e out used name) (fun p nm h=>h)).mono ?_⟩;rintro r k ⟨rfl,z,d⟩;refine⟨rfl,(d.aD1 (by omega)).mono ?_⟩;rintro r w1 ⟨rfl,s',f⟩;exact⟨rfl,s',f.ue g i⟩
def Hu (e:Nat)(most:Int)(b:bY)(out:aD)(used:Nat)(name:aD)(w:aH)(R:oL)(T:b.size<=140737488351232)(A:xA (bytesOf b) (asked most) e out used name)(B:e≠0->used=0):Calls prog 67 #[V 2, .string b,V most] w fun r w'=>∃H,r= .returned (.agg #[V e,H,V used, .string (eP name)])/\w'.ownsRow w.heap.size 5 1 H out.length (jR out)/\O w w':=by
 have g:=hide (fun M Q W S=>ax7 e most M b out used name w R T A Q W S);have J:=hide B;clear A B;go_enter func67,ntmps67;rcases FP most with⟨z,k⟩|⟨z,N,k⟩|⟨z,N,k⟩
 all_goals
  have I:=hide (g.o _ k _ rfl);clear g k;go_wp2_with fail;apply I.o.mono;rintro r wa ⟨rfl,p⟩;go_wp2_with fail;apply p.mono;rintro r wb ⟨rfl,i⟩;have d:=hide i;clear i;go_wp2_with fail;apply d.o.mono;rintro r w1 ⟨rfl,s',a⟩;clear d;obtain⟨Z,c1,c2,c3,c4,L⟩:=a.H9.cell;obtain⟨m,n,l⟩:=a.H9.vQ;rw[l]at c3;rw[a.fin.2.2.2]at L;rw[a.fin.1]at c2;have j:=aO a.res;have Y:=aO a.H9.blk;have C:w1.cell? (U w.heap.size 0)=some (V 0):=aC a.res 0 _ rfl;have D:w1.cell? (U w.heap.size 1)=some (.slice none 0 0):=aC a.res 1 _ rfl;have F:w1.cell? (U w.heap.size 2)=some (V 0):=aC a.res 2 _ rfl;have G:w1.cell? (U w.heap.size 3)=some (.string ⟨#[]⟩):=aC a.res 3 _ rfl;have g0:=aJ a.res 0;have g1:=aJ a.res 1;have g2:=aJ a.res 2;have g3:=aJ a.res 3;obtain⟨len,c⟩:=aP s'.out.length;rw[<-c]at c3 l;have u:=hide c;have y:=hide l;have f:=hide a;have X:=a.H9.there;clear a c l;by_cases q:e=0
  ·have t:((e:Int)==0)=true:=dI.2 (by omega);go_wp2_with fail;go_region;go_wp2_with fail;refine aY (v:= .agg #[V 0, .slice m len n,V ((s'.at_:Int)/8), .string (eP name)]) (by simp[results,results67,go_sem,C,D,F,G,j]) rfl ⟨.slice m len n,?_,f.o.row y.o _ _ _ _ _,f.o.far _ _ _ _ _⟩;have P:=f.o.fin.2.2.1 q;rw[q,show((s'.at_:Int)/8)=((used:Nat):Int) by rw[P];omega];rfl
  ·have t:((e:Int)==0)=false:=aX.2 (by omega);go_wp2_with fail;go_region;go_wp2_with fail;refine aY (v:= .agg #[V e, .slice m len n,V 0, .string (eP name)]) (by simp[results,results67,go_sem,C,D,F,G,j]) rfl ⟨.slice m len n,?_,f.o.row y.o _ _ _ _ _,f.o.far _ _ _ _ _⟩;rw[J.o q];rfl
def Rh (kind:Int)(most:Int)(b:bY)(w:aH)(a:¬kind=0)(g:¬kind=1)(c:¬kind=2):Calls prog 67 #[V kind, .string b,V most] w fun r w'=>r= .returned (.agg #[V ((1:Nat):Int), .slice none 0 0,V ((0:Nat):Int), .string ⟨#[]⟩])/\O w w':=by
 have b0:(kind==0)=false:=aX.2 a;have b1:(kind==1)=false:=aX.2 g;have b2:(kind==2)=false:=aX.2 c;clear a g c;go_enter func67,ntmps67;rcases FP most with⟨a,f⟩|⟨a,c,f⟩|⟨a,c,f⟩
 all_goals
  clear f;go_wp2_with fail;have d:∀o,((w.alloc (.cells #[V 1, .slice none 0 0,V 0, .string ⟨#[]⟩] 45)).alloc o).heap[w.heap.size]? =some (.cells #[V 1, .slice none 0 0,V 0, .string ⟨#[]⟩] 45 (0,0)):=fun o=>(dG _ _ _ (by simp)).trans (aR _ _);refine aY (v:= .agg #[V 1, .slice none 0 0,V 0, .string ⟨#[]⟩]) ?_ rfl ⟨rfl,((aU _ _).alloc _).alloc _⟩;have i:=fun o=>aC (d o) 0 _ rfl;have j:=fun o=>aC (d o) 1 _ rfl;have k:=fun o=>aC (d o) 2 _ rfl;have l:=fun o=>aC (d o) 3 _ rfl;simp[results,results67,go_sem]
end Go.Proofs.YtbpahojchgpdnaaGreatDoor
