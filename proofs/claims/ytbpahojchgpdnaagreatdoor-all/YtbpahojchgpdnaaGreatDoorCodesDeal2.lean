import Derived.Lib.BitFns
import Derived.Test.YtbpahojchgpdnaaGreatDoorFrame
import Derived.RangeFuncNested
import Derived.RangeFuncBound
import Derived.Shelf.RegionOpen
import Derived.LoopNIn
import Derived.LoopIn
import Derived.Maps.OwnIn
set_option maxRecDepth 20000
set_option maxHeartbeats 4000000
set_option linter.all false
namespace Go.Proofs.YtbpahojchgpdnaaGreatDoor
open Go.RowKit Go.dM Go.Maps Go.Proofs.Tryz
set_option maxRecDepth 100000 in
def Cg:(⟨(List.append (List.append [0,1,2,2,3,3,3,3,4,4,4,4,4,4,4,4,5,5,5,5,5,5,5,5,5,5,5,5,5,5,5,5,6,6,6,6,6,6,6,6,6,6,6,6,6,6,6,6,6,6,6,6,6,6,6,6,6,6,6,6,6,6,6,6] [7,7,7,7,7,7,7,7,7,7,7,7,7,7,7,7,7,7,7,7,7,7,7,7,7,7,7,7,7,7,7,7,7,7,7,7,7,7,7,7,7,7,7,7,7,7,7,7,7,7,7,7,7,7,7,7,7,7,7,7,7,7,7,7]) (List.append [8,8,8,8,8,8,8,8,8,8,8,8,8,8,8,8,8,8,8,8,8,8,8,8,8,8,8,8,8,8,8,8,8,8,8,8,8,8,8,8,8,8,8,8,8,8,8,8,8,8,8,8,8,8,8,8,8,8,8,8,8,8,8,8] [8,8,8,8,8,8,8,8,8,8,8,8,8,8,8,8,8,8,8,8,8,8,8,8,8,8,8,8,8,8,8,8,8,8,8,8,8,8,8,8,8,8,8,8,8,8,8,8,8,8,8,8,8,8,8,8,8,8,8,8,8,8,8,8])).toArray⟩:bY)=Lib.len8tab:=by kernel_rfl
def YK (i:Int)(b:0<=i)(h:i<(Lib.len8tab.size:Int))(a:i.toNat<Lib.len8tab.size):((Lib.len8tab[i.toNat]'a).toNat:Int)=(Lib.bitLen i.toNat:Nat):=by have hs:=Lib.len8tab_size;rw[<-Lib.len8_of i b (by omega)];unfold Lib.len8;rw[getElem?_pos Lib.len8tab i.toNat a];rfl
set_option maxRecDepth 100000 in
def Vf (x:Int)(w:aH)(a:0<=x)(b:x<=65535):Calls prog 176 #[.int .u32 x] w fun e w'=>e= .returned (V (Lib.bitLen x.toNat:Nat))/\w'=w:=by
  go_enter func176,ntmps176;rw[Cg];go_wp2;all_goals try (exfalso;have:=Lib.len8tab_size;omega)
  all_goals (go_ret;refine⟨lZ Ending.returned (lZ (V) ?_),rfl⟩)
  all_goals first
    | (rw [YK x a (by omega)]
       have l:=Lib.bitLen_le8' x (by omega) (by omega)
       unfold wrap64
       omega)
    | (rw [YK (x / 256) (by omega) (by omega)]
       have l:=Lib.bitLen_le8' (x/256) (by omega) (by omega)
       have e:(x/256).toNat=x.toNat/256:=by omega
       have s:=Lib.bitLen_shift8 x.toNat (by omega) (by omega)
       rw[e]at l|-
       unfold wrap64
       omega)
def Wi (x:Nat)(w:aH)(h:x<65536):Calls prog 176 #[.int .u32 (x:Nat)] w fun e w'=>e= .returned (V (Lib.bitLen x:Nat))/\w'=w:=Vf (x:Int) w (by omega) (by omega)
def U5 (x:Nat)(w:aH)(h:x<65536):Calls prog 155 #[.int .u32 (x:Nat)] w fun e w'=>e= .returned (V ((Lib.bitLen x:Nat)-1:Int))/\w'=w:=by
 have c:=Lib.bitLen_le x 16 (by omega) h;go_enter func155,ntmps155;go_wp2_with fail;apply(Wi x w h).mono;rintro e w1 ⟨rfl,rfl⟩;obtain⟨b,a⟩:=aP (Lib.bitLen x);rw[<-a]at c|-
 have HB:=hide a;clear a;go_wp2_with fail;go_ret;exact⟨by rw[<-HB.o];rfl,rfl⟩
def DV (l x:Nat)(a:2^l<=x)(b:x<2^(l+1))(c:x<65536):Lib.bitLen x=l+1:=by
 rw[Lib.bitLen_shift l x a (by omega)];have:x/2^l=1:=by
  rw[gW]at b;have hp:0<2^l:=nC (by omega);apply Nat.div_eq_of_lt_le<;>omega
 rw[this];rfl
end Go.Proofs.YtbpahojchgpdnaaGreatDoor
namespace Go.Proofs.YtbpahojchgpdnaaGreatDoor
open Go.RowKit Go.dM Go.Proofs.Tryz
set_option maxRecDepth 100000 in
def Ua (x:Int)(w:aH)(a:0<=x)(b:x<=65535):Calls prog 177 #[.int .u64 x] w fun e w'=>e= .returned (V (Lib.bitLen x.toNat:Nat))/\w'=w:=by
  go_enter func177,ntmps177;rw[Cg];go_wp2;all_goals try (exfalso;have:=Lib.len8tab_size;omega)
  all_goals (go_ret;refine⟨lZ Ending.returned (lZ (V) ?_),rfl⟩)
  all_goals first
    | (rw [YK x a (by omega)]
       have l:=Lib.bitLen_le8' x (by omega) (by omega)
       unfold wrap64
       omega)
    | (rw [YK (x / 256) (by omega) (by omega)]
       have l:=Lib.bitLen_le8' (x/256) (by omega) (by omega)
       have e:(x/256).toNat=x.toNat/256:=by omega
       have s:=Lib.bitLen_shift8 x.toNat (by omega) (by omega)
       rw[e]at l|-
       unfold wrap64
       omega)
def Px (x:Nat)(w:aH)(h:x<65536):Calls prog 156 #[.int .u64 (x:Nat)] w fun e w'=>e= .returned (V (Lib.bitLen x:Nat))/\w'=w:=by
 have d:=Lib.bitLen_le x 16 (by omega) h;have c:=hide (Ua (x:Int) w (by omega) (by omega));rw[show((x:Int).toNat)=x by omega]at c;obtain⟨b,a⟩:=aP (Lib.bitLen x);rw[<-a]at d c|-
 clear a;go_enter func156,ntmps156;go_wp2_with fail;apply c.o.mono;rintro e w1 ⟨rfl,rfl⟩;go_wp2_with fail;go_ret;exact⟨rfl,rfl⟩
def LenM (n s x m:Nat):Prop:=(n=258/\s=285/\x=0/\m=0)\/(257<=s/\s<265/\n=s-257+3/\x=0/\m=0)\/(265<=s/\s<285/\m=(s-261)/4/\n=(4+(s-265)%4)*2^m+3+x/\x<2^m/\m<=5/\n≠258)
def tL (d s x m:Nat):Prop:=(s<4/\d=s+1/\x=0/\m=0)\/(4<=s/\s<30/\m=s/2-1/\d=(2+s%2)*2^m+1+x/\x<2^m/\m<=13)
def ar2 (l a low:Nat)(e:2^l<=a)(f:a<2^(l+1))(g:3<=l)(i:l<=7)(c:low+2=l)(b:a≠255):LenM (a+3) (265+4*(low-1)+a/2^low-4) (a%2^low) low:=by
 refine .inr (.inr ?_);have d:l=3\/l=4\/l=5\/l=6\/l=7:=by omega
 rcases d with rfl|rfl|rfl|rfl|rfl;focus
  obtain rfl:low=1:=by omega
 rotate_left;focus
  obtain rfl:low=2:=by omega
 rotate_left;focus
  obtain rfl:low=3:=by omega
 rotate_left;focus
  obtain rfl:low=4:=by omega
 rotate_left;focus
  obtain rfl:low=5:=by omega
 all_goals
  simp only[Nat.reducePow,Nat.reduceAdd]at*;omega
def Cv (a l low:Nat)(e:2^l<=a)(f:a<2^(l+1))(b:low+1=l):a/2^low=2\/a/2^low=3:=by
 subst b;have hp:0<2^low:=nC (by omega);have c:2^(low+1)=2*2^low:=by rw[gW,nH]
 have d:2^(low+1+1)=4*2^low:=by rw[gW,c];omega
 have a1:2<=a/2^low:=(O7 hp).2 (by omega);have a2:a/2^low<4:=(Nat.div_lt_iff_lt_mul hp).2 (by omega);omega
def Ze (l a low:Nat)(e:2^l<=a)(f:a<2^(l+1))(g:2<=l)(i:l<=14)(b:low+1=l):tL (a+1) (2*(low+1)+a/2^low-2) (a%2^low) low:=by
 refine .inr ?_;have hp:0<2^low:=nC (by omega);have c:=Nat.div_add_mod a (2^low);have d:=wK a hp;rcases Cv a l low e f b with h|h
 ·rw[h]at c|-
  rw[show(2*(low+1)+2-2)%2=0 by omega];exact⟨by omega,by omega,by omega,by omega,d,by omega⟩
 ·rw[h]at c|-
  rw[show(2*(low+1)+3-2)%2=1 by omega];exact⟨by omega,by omega,by omega,by omega,d,by omega⟩
def Pz (a:Nat)(h:0<a):∀n,a<2^n->∃l,2^l<=a/\a<2^(l+1)/\l<n:=by
 intro n;induction n with
 |zero=>intro b;simp at b;omega
 |succ n ih=>
  intro b;by_cases c:2^n<=a
  ·exact⟨n,c,b,by omega⟩
  ·obtain⟨l,d,e,f⟩:=ih (by omega);exact⟨l,d,e,by omega⟩
def TD (a low:Nat)(w:aH)(b:2^(low+2)<=a)(f:a<2^(low+3))(l:1<=low)(o:low<=5)(c:a≠255):Calls prog 128 #[V ((a:Int)+3)] w fun e w'=>∃s x m:Nat,e= .returned (.agg #[V s,V x,V m])/\LenM (a+3) s x m/\O w w':=by
 have q:a<256:=nM f (gL (by omega) (show low+3<=8 by omega));have j:=DV (low+2) a b f (by omega);have d:=ar2 (low+2) a low b f (by omega) (by omega) rfl c;have p:8<=a:=bB (gL (show 0<2 by omega) (show 3<=low+2 by omega)) b;have n:a/2^low>=4:=by
  rw[oZ]at b;exact(O7 (nC (by omega))).2 (by rw[nH];exact b)
 have k:low=1\/low=2\/low=3\/low=4\/low=5:=by omega
 go_enter func128,ntmps128;have g:((a:Int)+3==258)=false:=aX.2 (by omega);have i:¬(a:Int)+3-3<8:=by omega
 have r:IntKind.u64.wrap ((a:Int)+3-3)=(a:Int):=by rw[IntKind.wrap_u64];omega
 go_wp2_with fail;apply(Px a _ (by omega)).mono;rintro e w1 ⟨rfl,rfl⟩;rw[j];rcases k with rfl|rfl|rfl|rfl|rfl;all_goals go_wp2_with fail
 all_goals go_region
 all_goals go_wp2_with fail
 ·refine aY (v:= .agg #[V (265+(a:Int)/2-4),V ((a:Int)%2),V 1]) (by simp[results,results128,go_sem]) rfl ⟨_,_,_,?_,d,((aU _ _).alloc _).drew⟩;rw[show(265+(a:Int)/2-4)=((265+4*(1-1)+a/2^1-4:Nat):Int) by omega,show(a:Int)%2=((a%2^1:Nat):Int) by omega];rfl
 ·refine aY (v:= .agg #[V (269+(a:Int)/4-4),V ((a:Int)%4),V 2]) (by simp[results,results128,go_sem]) rfl ⟨_,_,_,?_,d,((aU _ _).alloc _).drew⟩;rw[show(269+(a:Int)/4-4)=((265+4*(2-1)+a/2^2-4:Nat):Int) by omega,show(a:Int)%4=((a%2^2:Nat):Int) by omega];rfl
 ·refine aY (v:= .agg #[V (273+(a:Int)/8-4),V ((a:Int)%8),V 3]) (by simp[results,results128,go_sem]) rfl ⟨_,_,_,?_,d,((aU _ _).alloc _).drew⟩;rw[show(273+(a:Int)/8-4)=((265+4*(3-1)+a/2^3-4:Nat):Int) by omega,show(a:Int)%8=((a%2^3:Nat):Int) by omega];rfl
 ·refine aY (v:= .agg #[V (277+(a:Int)/16-4),V ((a:Int)%16),V 4]) (by simp[results,results128,go_sem]) rfl ⟨_,_,_,?_,d,((aU _ _).alloc _).drew⟩;rw[show(277+(a:Int)/16-4)=((265+4*(4-1)+a/2^4-4:Nat):Int) by omega,show(a:Int)%16=((a%2^4:Nat):Int) by omega];rfl
 ·refine aY (v:= .agg #[V (281+(a:Int)/32-4),V ((a:Int)%32),V 5]) (by simp[results,results128,go_sem]) rfl ⟨_,_,_,?_,d,((aU _ _).alloc _).drew⟩;rw[show(281+(a:Int)/32-4)=((265+4*(5-1)+a/2^5-4:Nat):Int) by omega,show(a:Int)%32=((a%2^5:Nat):Int) by omega];rfl
def F4 (n:Nat)(w:aH)(i:3<=n)(b:n<=258):Calls prog 128 #[V n] w fun e w'=>∃s x m:Nat,e= .returned (.agg #[V s,V x,V m])/\LenM n s x m/\O w w':=by
 by_cases c1:n=258
 ·subst c1;go_enter func128,ntmps128;go_wp2_with fail;refine aY (v:= .agg #[V 285,V 0,V 0]) (by simp[results,results128,go_sem]) rfl ⟨285,0,0,rfl, .inl ⟨rfl,rfl,rfl,rfl⟩,(aU _ _).alloc _⟩
 by_cases c2:n<11
 ·have c:((n:Int)==258)=false:=aX.2 (by omega);have d:(n:Int)-3<8:=by omega
  go_enter func128,ntmps128;go_wp2_with fail;refine aY (v:= .agg #[V (257+((n:Int)-3)),V 0,V 0]) (by simp[results,results128,go_sem]) rfl ⟨254+n,0,0,?_, .inr (.inl ⟨by omega,by omega,by omega,rfl,rfl⟩),(aU _ _).alloc _⟩;rw[show(257:Int)+((n:Int)-3)=((254+n:Nat):Int) by omega];rfl
 ·obtain⟨a,rfl⟩:∃a,n=a+3:=⟨n-3,by omega⟩
  obtain⟨l,f,g,j⟩:=Pz a (by omega) 8 (show a<256 by omega);have k:3<=l:=by
   rcases mK l 3 with y|y
   ·have:=gL (show 0<2 by omega) (show l+1<=3 by omega);have e:(2:Nat)^3=8:=rfl;omega
   ·exact y
  obtain⟨low,rfl⟩:∃low,l=low+2:=⟨l-2,by omega⟩
  exact TD a low w f g (by omega) (by omega) (by omega)
def KT (a low:Nat)(w:aH)(c:2^(low+1)<=a)(d:a<2^(low+2))(j:1<=low)(l:low<=13):Calls prog 130 #[V ((a:Int)+1)] w fun e w'=>∃s x m:Nat,e= .returned (.agg #[V s,V x,V m])/\tL (a+1) s x m/\O w w':=by
 have o:a<32768:=nM d (gL (by omega) (show low+2<=15 by omega));have g:=DV (low+1) a c d (by omega);have b:=Ze (low+1) a low c d (by omega) (by omega) rfl;have n:4<=a:=bB (gL (show 0<2 by omega) (show 2<=low+1 by omega)) c;have k:a/2^low>=2:=by
  rw[oZ]at c;exact(O7 (nC (by omega))).2 (by rw[nH];exact c)
 have i:low=1\/low=2\/low=3\/low=4\/low=5\/low=6\/low=7\/low=8\/low=9\/low=10\/low=11\/low=12\/low=13:=by omega
 go_enter func130,ntmps130;have f:¬(a:Int)+1-1<4:=by omega
 have p:IntKind.u64.wrap ((a:Int)+1-1)=(a:Int):=by rw[IntKind.wrap_u64];omega
 go_wp2_with fail;apply(Px a _ (by omega)).mono;rintro e w1 ⟨rfl,rfl⟩;rw[g];rcases i with rfl|rfl|rfl|rfl|rfl|rfl|rfl|rfl|rfl|rfl|rfl|rfl|rfl;all_goals go_wp2_with fail
 all_goals go_region
 all_goals go_wp2_with fail
 ·refine aY (v:= .agg #[V (4+(a:Int)/2-2),V ((a:Int)%2),V 1]) (by simp[results,results130,go_sem]) rfl ⟨_,_,_,?_,b,((aU _ _).alloc _).drew⟩;rw[show(4+(a:Int)/2-2)=((2*(1+1)+a/2^1-2:Nat):Int) by omega,show(a:Int)%2=((a%2^1:Nat):Int) by omega];rfl
 ·refine aY (v:= .agg #[V (6+(a:Int)/4-2),V ((a:Int)%4),V 2]) (by simp[results,results130,go_sem]) rfl ⟨_,_,_,?_,b,((aU _ _).alloc _).drew⟩;rw[show(6+(a:Int)/4-2)=((2*(2+1)+a/2^2-2:Nat):Int) by omega,show(a:Int)%4=((a%2^2:Nat):Int) by omega];rfl
 ·refine aY (v:= .agg #[V (8+(a:Int)/8-2),V ((a:Int)%8),V 3]) (by simp[results,results130,go_sem]) rfl ⟨_,_,_,?_,b,((aU _ _).alloc _).drew⟩;rw[show(8+(a:Int)/8-2)=((2*(3+1)+a/2^3-2:Nat):Int) by omega,show(a:Int)%8=((a%2^3:Nat):Int) by omega];rfl
 ·refine aY (v:= .agg #[V (10+(a:Int)/16-2),V ((a:Int)%16),V 4]) (by simp[results,results130,go_sem]) rfl ⟨_,_,_,?_,b,((aU _ _).alloc _).drew⟩;rw[show(10+(a:Int)/16-2)=((2*(4+1)+a/2^4-2:Nat):Int) by omega,show(a:Int)%16=((a%2^4:Nat):Int) by omega];rfl
 ·refine aY (v:= .agg #[V (12+(a:Int)/32-2),V ((a:Int)%32),V 5]) (by simp[results,results130,go_sem]) rfl ⟨_,_,_,?_,b,((aU _ _).alloc _).drew⟩;rw[show(12+(a:Int)/32-2)=((2*(5+1)+a/2^5-2:Nat):Int) by omega,show(a:Int)%32=((a%2^5:Nat):Int) by omega];rfl
 ·refine aY (v:= .agg #[V (14+(a:Int)/64-2),V ((a:Int)%64),V 6]) (by simp[results,results130,go_sem]) rfl ⟨_,_,_,?_,b,((aU _ _).alloc _).drew⟩;rw[show(14+(a:Int)/64-2)=((2*(6+1)+a/2^6-2:Nat):Int) by omega,show(a:Int)%64=((a%2^6:Nat):Int) by omega];rfl
 ·refine aY (v:= .agg #[V (16+(a:Int)/128-2),V ((a:Int)%128),V 7]) (by simp[results,results130,go_sem]) rfl ⟨_,_,_,?_,b,((aU _ _).alloc _).drew⟩;rw[show(16+(a:Int)/128-2)=((2*(7+1)+a/2^7-2:Nat):Int) by omega,show(a:Int)%128=((a%2^7:Nat):Int) by omega];rfl
 ·refine aY (v:= .agg #[V (18+(a:Int)/256-2),V ((a:Int)%256),V 8]) (by simp[results,results130,go_sem]) rfl ⟨_,_,_,?_,b,((aU _ _).alloc _).drew⟩;rw[show(18+(a:Int)/256-2)=((2*(8+1)+a/2^8-2:Nat):Int) by omega,show(a:Int)%256=((a%2^8:Nat):Int) by omega];rfl
 ·refine aY (v:= .agg #[V (20+(a:Int)/512-2),V ((a:Int)%512),V 9]) (by simp[results,results130,go_sem]) rfl ⟨_,_,_,?_,b,((aU _ _).alloc _).drew⟩;rw[show(20+(a:Int)/512-2)=((2*(9+1)+a/2^9-2:Nat):Int) by omega,show(a:Int)%512=((a%2^9:Nat):Int) by omega];rfl
 ·refine aY (v:= .agg #[V (22+(a:Int)/1024-2),V ((a:Int)%1024),V 10]) (by simp[results,results130,go_sem]) rfl ⟨_,_,_,?_,b,((aU _ _).alloc _).drew⟩;rw[show(22+(a:Int)/1024-2)=((2*(10+1)+a/2^10-2:Nat):Int) by omega,show(a:Int)%1024=((a%2^10:Nat):Int) by omega];rfl
 ·refine aY (v:= .agg #[V (24+(a:Int)/2048-2),V ((a:Int)%2048),V 11]) (by simp[results,results130,go_sem]) rfl ⟨_,_,_,?_,b,((aU _ _).alloc _).drew⟩;rw[show(24+(a:Int)/2048-2)=((2*(11+1)+a/2^11-2:Nat):Int) by omega,show(a:Int)%2048=((a%2^11:Nat):Int) by omega];rfl
 ·refine aY (v:= .agg #[V (26+(a:Int)/4096-2),V ((a:Int)%4096),V 12]) (by simp[results,results130,go_sem]) rfl ⟨_,_,_,?_,b,((aU _ _).alloc _).drew⟩;rw[show(26+(a:Int)/4096-2)=((2*(12+1)+a/2^12-2:Nat):Int) by omega,show(a:Int)%4096=((a%2^12:Nat):Int) by omega];rfl
 ·refine aY (v:= .agg #[V (28+(a:Int)/8192-2),V ((a:Int)%8192),V 13]) (by simp[results,results130,go_sem]) rfl ⟨_,_,_,?_,b,((aU _ _).alloc _).drew⟩;rw[show(28+(a:Int)/8192-2)=((2*(13+1)+a/2^13-2:Nat):Int) by omega,show(a:Int)%8192=((a%2^13:Nat):Int) by omega];rfl
def A8 (n:Nat)(w:aH)(b:1<=n)(c:n<=32768):Calls prog 130 #[V n] w fun e w'=>∃s x m:Nat,e= .returned (.agg #[V s,V x,V m])/\tL n s x m/\O w w':=by
 by_cases c2:n<5
 ·have d:(n:Int)-1<4:=by omega
  go_enter func130,ntmps130;go_wp2_with fail;refine aY (v:= .agg #[V ((n:Int)-1),V 0,V 0]) (by simp[results,results130,go_sem]) rfl ⟨n-1,0,0,?_, .inl ⟨by omega,by omega,rfl,rfl⟩,(aU _ _).alloc _⟩;rw[show((n:Int)-1)=((n-1:Nat):Int) by omega];rfl
 ·obtain⟨a,rfl⟩:∃a,n=a+1:=⟨n-1,by omega⟩
  obtain⟨l,b,f,g⟩:=Pz a (by omega) 15 (show a<32768 by omega);have i:2<=l:=by
   rcases mK l 2 with y|y
   ·have:=gL (show 0<2 by omega) (show l+1<=2 by omega);have e:(2:Nat)^2=4:=rfl;omega
   ·exact y
  obtain⟨low,rfl⟩:∃low,l=low+1:=⟨l-1,by omega⟩
  exact KT a low w b f (by omega) (by omega)
open Go.Shelf Go.Maps
def lW (L:aD)(l:Nat)(st:d9):Nat->List (Nat×Nat)
 |0=>[]
 |k+1=>lW L l st k++(if L[k]?.getD 0=l then[((bR L l st k).next,k)]else[])
def jK (L:aD)(l:Nat):d9:=⟨2*(bZ L l).next,(bZ L l).tab,(bZ L l).longest⟩
def lU (L:aD):Nat->List (Nat×Nat)
 |0=>[]
 |l+1=>lU L l++lW L (l+1) (jK L l) L.length
def yZ (L:aD)(l:Nat)(st:d9)(k:Nat):(lW L l st k).length<=k:=by
 induction k with
 |zero=>simp[lW]
 |succ k ih=>
  rw[lW,aN];split<;>simp<;>omega
def zR (L:aD)(l:Nat):(lU L l).length<=l*L.length:=by
 induction l with
 |zero=>simp[lU]
 |succ l ih=>
  have:=yZ L (l+1) (jK L l) L.length;rw[lU,aN,Nat.succ_mul];omega
def PY (xs:List (Nat×Nat)):Tab:=xs.foldl (fun M x c=>if c=x.1%65536 then some (x.2%65536)else M c) (fun _=>none)
def lenOf (xs:List (Nat×Nat)):Int:=xs.foldl (fun _ x=>(Lib.bitLen (x.1%65536):Nat)-1) 0
def RF (xs:List (Nat×Nat))(x:Nat×Nat):PY (xs++[x])=fun c=>if c=x.1%65536 then some (x.2%65536)else PY xs c:=by simp[PY]
def FJ (xs:List (Nat×Nat))(x:Nat×Nat):lenOf (xs++[x])=(Lib.bitLen (x.1%65536):Nat)-1:=by simp[lenOf]
def P8 (L:aD)(a:∀i:Nat,L[i]?.getD 0<=15)(f:fF L=true)(l k:Nat)(r:l<15)(hk:k<L.length)(b:L[k]?.getD 0=l+1):2^(l+1)<=(bR L (l+1) (jK L l) k).next/\(bR L (l+1) (jK L l) k).next<2^(l+2)/\(bR L (l+1) (jK L l) k).next<65536:=by
 have e:(bR L (l+1) (jK L l) k).next=Go.dM.keyOf L k:=by
  rw[qG];unfold Go.dM.keyOf jK;dsimp only;rw[b,kU,show l+1-1=l by omega]
 have c:=BH L k hk (by omega);have g:=room L a f;have j:=GY L (show l+1<=15 by omega);have m:=LC L l;rw[b]at c;have n:2^(l+2)*2^(15-(l+1))=65536:=by
  rw[<-oZ,show l+2+(15-(l+1))=16 by omega]
 have o:nx L (l+1)<=2^(l+2):=by
  have hp:0<2^(15-(l+1)):=nC (by omega);exact Nat.le_of_mul_le_mul_right (by omega) hp
 have d:2*nx L l<=(bR L (l+1) (jK L l) k).next:=by
  rw[qG];unfold jK;dsimp only;rw[kU];omega
 have p:2^(l+2)<=2^16:=gL (by omega) (by omega);rw[e]at d|-
 have q:2^(l+1)=2*2^l:=by rw[gW,nH]
 omega
def au2 (L:aD)(c:∀i:Nat,L[i]?.getD 0<=15)(g:fF L=true)(j:L.length<=1000)(l:Nat)(f:l<15)(d:PY (lU L l)=(bZ L l).tab)(e:lenOf (lU L l)=((bZ L l).longest:Nat))(k:Nat)(hk:k<=L.length):PY (lU L l++lW L (l+1) (jK L l) k)=(bR L (l+1) (jK L l) k).tab/\lenOf (lU L l++lW L (l+1) (jK L l) k)=((bR L (l+1) (jK L l) k).longest:Nat):=by
 induction k with
 |zero=>rw[lW,bG,bR];exact⟨d,e⟩
 |succ k ih=>
  have h:=ih (by omega);rw[lW,bR];by_cases a:L[k]?.getD 0=l+1
  ·have b:=P8 L c g l k f (by omega) a;rw[aA a,aA a,<-dB,RF,FJ,h.1];dsimp only;rw[kC b.2.2,kC (show k<65536 by omega),DV (l+1) _ b.1 b.2.1 b.2.2];exact⟨rfl,by omega⟩
  ·rw[aB a,aB a,bG];exact h
def au1 (L:aD)(a:∀i:Nat,L[i]?.getD 0<=15)(c:fF L=true)(b:L.length<=1000)(l:Nat)(d:l<=15):PY (lU L l)=(bZ L l).tab/\lenOf (lU L l)=((bZ L l).longest:Nat):=by
 induction l with
 |zero=>exact⟨rfl,rfl⟩
 |succ l ih=>
  have h:=ih (by omega);exact au2 L a c b l (by omega) h.1 h.2 L.length (aS _)
def ar0 (x:Nat×Nat):Array aK:=#[.int .u32 ((x.1%65536:Nat):Int),V ((x.2%65536:Nat):Int)]
def uO (a b:Nat)(A B:aH):Prop:=B.heap[a]? =A.heap[a]? /\B.heap[b]? =A.heap[b]?
def uO.trans {a b:Nat}{A B C:aH}(h:uO a b A B)(k:uO a b B C):uO a b A C:=⟨k.1.trans h.1,k.2.trans h.2⟩
def uO.ints {a b off:Nat}{A B:aH}{L:aD}(h:uO a b A B)(c:Ints A b off L):Ints B b off L:=⟨fun i hi=>(vF (a:=⟨b,off+i,none⟩) h.2).trans (c.cell i hi),c.le,c.much⟩
attribute [local go_sem] Oper.semAt_some
set_option maxRecDepth 100000 in
def Ru (F:Fence)(n:Nat)(hf:F.fn 178)(Z:F.round=none)(hn:1<=n)(l u g off cap:Nat)(L:aD)(z:∀i:Nat,L[i]?.getD 0<=15)(hm:fF L=true)(hL:L.length<=1000)(J Jx:List (Nat×Nat)->aH->Prop)(hY:∀pre x W,J pre W->pre.length<15001->YieldAt F (n-1) prog l (ar0 x) W fun e w=>(e= .returned (.bool true)/\J (pre++[x]) w/\uO u g W w)\/(e= .returned (.bool false)/\Jx (pre++[x]) w))(W:aH)(K:W.cell? (U u 0)=some (.slice (some (U g off)) L.length cap))(hc:Ints W g off L)(h0:J [] W):CallsIn F n prog 178 #[.func (.yield l) #[] #[],E u] W fun e w=>(∃v,e= .returned v)/\((∃ys,ys=lU L 15/\J ys w)\/(∃pre,True/\Jx pre w)):=by
 refine GZ func178 rfl hf ?_ Z;simp only[ntmps178,xD,iN,pE,Nat.reduceAdd,Nat.reduceSub,BS,CV,AR,CU,iO,jZ];gi_wp2;gi_loopw [3,4] (fun nx ln wr=>∃l:Nat,l<=15/\ln=V ((l:Int)+1)/\nx= .int .u32 ((bZ L l).next:Nat)/\J (lU L l) wr/\uO u g W wr) (fun _ ln _=>16-(intOf ln).toNat);case atStart=>exact⟨0,by omega,rfl,rfl,h0,rfl,rfl⟩
 case round=>
  obtain⟨l,hl,rfl,rfl,f,d⟩:=hrel;have N:=DJ L hL l hl;by_cases S:l<15
  ·have e2:((bZ L l).next:Int)*2=(((jK L l).next:Nat):Int):=(by unfold jK;dsimp only;omega);have P:=(vF (a:=(U u 0)) d.1).trans K;have H2:=hide e2;have ad:(jK L l).next<=65601536:=(by unfold jK;dsimp only;omega);have HJ:=hide f;clear e2 f;gi_wp2;rw[H2.o,show decide ((l:Int)+1<=15)=true from eU (by omega)];gi_loopw [3,15] (fun nx i wr=>∃k:Nat,k<=L.length/\i=V k/\nx= .int .u32 ((bR L (l+1) (jK L l) k).next:Nat)/\J (lU L l++lW L (l+1) (jK L l) k) wr/\uO u g W wr) (fun _ i _=>L.length-(intOf i).toNat);case atStart=>exact⟨0,by omega,rfl,rfl,by rw[lW,bG];exact HJ.o,d⟩
   case round=>
    clear P d HJ;obtain⟨k,hk,rfl,rfl,f,d⟩:=hrel;have T:=vZ L (l+1) (jK L l) k;have b:(lU L l++lW L (l+1) (jK L l) k).length<15001:=by
     have h1:=zR L l;have h2:=yZ L (l+1) (jK L l) k;rw[aN];have h3:l*L.length<=14*L.length:=mZ _ (by omega);omega
    by_cases B:k<L.length
    ·have p:=(d.ints hc).cell k B;have R:=z k;obtain⟨q,X⟩:=aP (L[k]?.getD 0);rw[<-X]at p R;have y:=hide X;clear X;by_cases c:q=l+1
     ·have Y:((q:Int) !=(l:Int)+1)=false:=(by rw[tY];omega);have D:=P8 L z hm l k S B (by rw[<-y.o];exact c);obtain⟨fn,tmps,C,aa,G,M⟩:=hY _ ((bR L (l+1) (jK L l) k).next,k) wr f b;unfold ar0 at G;dsimp only at G;rw[kC D.2.2,kC (show k<65536 by omega)]at G;have s:lW L (l+1) (jK L l) (k+1)=lW L (l+1) (jK L l) k++[((bR L (l+1) (jK L l) k).next,k)]:=by
       rw[lW,<-y.o,aA c]
      have r:(bR L (l+1) (jK L l) (k+1)).next=(bR L (l+1) (jK L l) k).next+1:=by
       rw[bR,<-y.o,aA c]
      rw[dB,<-s]at M;have ab:=hide s;have H:=hide r;obtain⟨nx,t⟩:=aP ((bR L (l+1) (jK L l) k).next);rw[<-t]at D G r|-
      have I:=hide t;have ac:nx<65536:=D.2.2;have HB:=hide d;have HR:=hide M;clear s r t D d f T M b N;gi_wp2;apply HR.o.mono;rintro e W3 (⟨rfl,A,Q⟩|⟨rfl,j⟩)
      ·have m:=hide A;clear A;gi_wp2;go_roundw;case rel=>exact⟨k+1,by omega,by go_num,by rw[H.o,<-I.o];go_num,m.o,HB.o.trans Q⟩
       case measure=>simp[intOf];omega
      ·have m:=hide j;clear j;gi_wp2;refine aY (mD rfl _ _ _) rfl ?_;exact⟨⟨_,rfl⟩, .inr ⟨_,bT,m.o⟩⟩
     ·have Y:((q:Int) !=(l:Int)+1)=true:=(by rw[jP];omega);gi_wp2;go_roundw;case rel=>exact⟨k+1,by omega,by go_num,by rw[bR,<-y.o,aB c],by rw[lW,<-y.o,aB c,bG];exact f,d⟩
      case measure=>simp[intOf];omega
    ·have:k=L.length:=(by omega);subst this;gi_wp2;go_roundw;case rel=>exact⟨l+1,by omega,by go_num,rfl,f,d⟩
     case measure=>simp[intOf];omega
  ·have:l=15:=(by omega);subst this;gi_wp2;go_end0;exact⟨⟨_,rfl⟩, .inl ⟨_,rfl,f⟩⟩
def Dj (F:Fence)(n:Nat)(c:F.fn 157)(b:F.round=none)(a:Option Addr)(len cap:Nat)(w:aH):CallsIn F n prog 157 #[.slice a len cap] w fun e w'=>e= .returned (.func (.func 178) #[] #[E w.heap.size])/\w'=w.alloc (.cells #[.slice a len cap] 57):=by refine GZ func157 rfl c ?_ b;simp only[ntmps157,xD,iN,pE,Nat.reduceAdd,Nat.reduceSub,BS,CV,AR,CU,iO,jZ];gi_wp2;go_ret;exact⟨rfl,rfl⟩
def Gs (F:Fence)(n:Nat)(r:F.fn 178)(e:F.round=none)(hn:1<=n)(a g off cap:Nat)(L:aD)(b:∀i:Nat,L[i]?.getD 0<=15)(t:fF L=true)(m:L.length<=1000)(w:aH)(c:a<w.heap.size)(s:g<w.heap.size)(q:w.cell? (U a 0)=some (.slice (some (U g off)) L.length cap))(d:Ints w g off L):SeqStopsK F n prog 178 #[E a] ar0 (uO a g) (fun ys=>ys=lU L 15) (fun _=>True) 15001 w:=fun l J j W f _ _ o k=>
 Ru F n r e hn l a g off cap L b t m J j o W ((f.cell (p:=(U a 0)) c).trans q) ⟨fun i hi=>(f.cell (p:=⟨g,off+i,none⟩) s).trans (d.cell i hi),d.le,d.much⟩ k
structure as3 (w:aH)(R:Nat)(pre:List (Nat×Nat))(W:aH):Prop where
 v0:W.cell? ⟨R+1+1,0,none⟩=some (.map (some (R+1)))
 v1:W.cell? ⟨R+1+1,1,none⟩=some (V (lenOf pre))
 f1:W.frozen? ⟨R+1+1,1,none⟩=false
 r0:W.cell? (U R 0)=some (.map none)
 r1:W.cell? (U R 1)=some (V 0)
 rf0:W.frozen? (U R 0)=false
 rf1:W.frozen? (U R 1)=false
 own:∃D:DataW Unit,W.ownsMap prog 198 (plainElem prog 3) (R+1) pre.length D/\Bv D (PY pre)
 below:Below w.heap.size w W
 big:R+4<=W.heap.size
def Zr (xs:List (Nat×Nat)): -1<=lenOf xs/\lenOf xs<=100:=by
 rcases List.eq_nil_or_concat xs with h|⟨ys,x,h⟩
 ·rw[h];simp[lenOf]
 ·rw[h,List.concat_eq_append,FJ];have:=Lib.bitLen_le (x.1%65536) 16 (by omega) (by have:=wK x.1 (show 65536>0 by omega);omega);omega
set_option maxRecDepth 100000 in
def af3 (g off cap:Nat)(L:aD)(w:aH)(h:Ints w g off L)(ai:g<w.heap.size)(hm:fF L=true):Calls prog 218 #[.slice (some (U g off)) L.length cap] w fun e w'=>∃mb,e= .returned (.agg #[.map (some mb),V ((aI L).longest:Nat)])/\w.heap.size<=mb/\TabAt w' mb (aI L).tab/\O w w':=by
 refine(uV (n:=3)).1 ?_;have aw:=@run_makeMap prog;refine callsIn_of_wp_marks func218 rfl bT ?_ rfl;simp only[ntmps218,xD,iN,pE,Nat.reduceAdd,Nat.reduceSub,BS,CV,AR,CU,iO,jZ];gi_wp2_with (refine⟨bT,?_⟩;gi_at_call 157;apply(Dj _ _ bT rfl _ _ _ _).mono;rintro e w' ⟨rfl,rfl⟩);obtain⟨R,Y⟩:=aP w.heap.size;rw[<-Y];obtain⟨w1,m⟩:=aP (((((w.alloc (.cells #[.map none,V 0] 123)).alloc (.map #[] 0)).alloc (.cells #[.map (some (R+1)),V 0] 123)).alloc (.cells #[.slice (some (U g off)) L.length cap] 57)));have bk:w1.heap.size=R+1+1+1+1:=by rw[m,Y];simp
 have ae:Below w.heap.size w w1:=by rw[m];exact((((qK _ w).alloc (aS _) _).alloc (by simp) _).alloc (by simp;omega) _).alloc (by simp;omega) _
 have ag:w1.cell? ⟨R+1+1+1,0,none⟩=some (.slice (some (U g off)) L.length cap):=by
  have h9:=aR (((w.alloc (.cells #[.map none,V 0] 123)).alloc (.map #[] 0)).alloc (.cells #[.map (some (R+1)),V 0] 123)) (.cells #[.slice (some (U g off)) L.length cap] 57);rw[<-m,show(((w.alloc (.cells #[.map none,V 0] 123)).alloc (.map #[] 0)).alloc (.cells #[.map (some (R+1)),V 0] 123)).heap.size=R+1+1+1 by rw[Y];simp]at h9;exact jO h9
 have v:w1.heap[R+1+1]? =some (.cells #[.map (some (R+1)),V 0] 123 (0,0)):=by
  rw[m,Y];refine(dG _ _ _ (by simp)).trans ?_;have h9:=aR ((w.alloc (.cells #[.map none,V 0] 123)).alloc (.map #[] 0)) (.cells #[.map (some (w.heap.size+1)),V 0] 123);simpa using h9
 have f:w1.heap[R]? =some (.cells #[.map none,V 0] 123 (0,0)):=by
  rw[m,Y];exact(dG _ _ _ (by simp;omega)).trans ((dG _ _ _ (by simp;omega)).trans ((dG _ _ _ (by simp)).trans (aR _ _)))
 have T:w1.ownsMap prog 198 (plainElem (H:=Unit) prog 3) (R+1) 0 (.map []):=by
  rw[m,Y];have h9:=((World.ownsMap_made (H:=Unit) (w.alloc (.cells #[.map none,V 0] 123)) prog 198 (plainElem prog 3)).alloc (.cells #[.map (some (w.heap.size+1)),V 0] 123)).alloc (.cells #[.slice (some (U g off)) L.length cap] 57);simpa using h9
 have ac:as3 w R [] w1:=⟨aC v 0 _ rfl,aC v 1 _ rfl,aJ v 1,aC f 0 _ rfl,aC f 1 _ rfl,aJ f 0,aJ f 1,⟨.map [],T,Sb⟩,ae,by omega⟩
 have ah:Ints w1 g off L:=⟨fun i hi=>(ae.cell (p:=⟨g,off+i,none⟩) ai).trans (h.cell i hi),h.le,h.much⟩
 have I:=h.much;have aa:=h.le;have ad:w.heap.size<=R:=by omega
 have bb:R<=w.heap.size:=by omega
 rw[<-m];clear m Y v f T h aw;have an:=hide ac;have ak:=hide ah;clear ac ah
 refine wpIn_rangeFunc_ownG (F:=Fence.wide) rfl (by omega) (gf:=178) (lb:=#[.pointer (some ⟨R+1+1+1,0,none⟩)]) rfl bT (enters_of func178 (by kernel_rfl) rfl)
  (Gs Fence.wide _ bT rfl (by omega) (R+1+1+1) g off cap L aa hm I w1 (by omega) (by omega) ag ak.o) uO.trans ?hKb (qK _ _) (fun _=>rfl)
  (as3 w R) (fun _ _ _=>False) ?hI (fun _ _ _ _ _ hs _ _=>hs) an.o
  (fun x=>{ tmps:=#[.slice (some (U g off)) L.length cap,undef,E R, .pointer (some ⟨R+1+1,0,none⟩), .int .u32 ((x.1%65536:Nat):Int),V ((x.2%65536:Nat):Int), .map (some (R+1)), .agg #[.map (some (R+1)),V 0], .slice (some (U g off)) L.length cap, .func (.func 178) #[] #[.pointer (some ⟨R+1+1+1,0,none⟩)], .int .u32 ((x.1%65536:Nat):Int),V ((x.2%65536:Nat):Int),undef,undef,undef,undef,undef,undef,undef,undef],defers:=[] }) ?assign ?body ?done ?stop
 case hKb=>
  intro W l o o' hl _ _ _;exact⟨World.putObj_heap_other (by omega),World.putObj_heap_other (by omega)⟩
 case hI=>
  intro s A B row hs d hr;have q:=fun r e=>(hr r e).2;obtain⟨D,hD,hM⟩:=hs.own
  exact⟨cell_kept hs.v0 d q,cell_kept hs.v1 d q,(frozen_kept hs.v1 d q).trans hs.f1,cell_kept hs.r0 d q,cell_kept hs.r1 d q,(frozen_kept hs.r0 d q).trans hs.rf0,(frozen_kept hs.r1 d q).trans hs.rf1,
   ⟨D,hD.kept d (fun e=>by have:=(hr _ e.symm).1;omega),hM⟩,hs.below.grown d hs.below.size (fun k e=>by have:=(hr k e).1;omega),bB hs.big d.size⟩
 case assign=>
  intro l x W K Q;dsimp only[ar0];gi_wp2;exact Q
 case body=>
  rintro l pre x W hs bj;obtain⟨D,aj,hM⟩:=hs.own;have v0:=hs.v0;have v1:=hs.v1;have f1:=hs.f1;obtain⟨K,Q⟩:=aP (x.1%65536);obtain⟨S,hS⟩:=aP (x.2%65536);have y:K<65536:=by rw[Q];exact wK _ (by omega)
  have bf:S<65536:=by rw[hS];exact wK _ (by omega)
  have G:=FJ pre x;have u:=RF pre x;rw[<-Q]at G u;rw[<-hS]at u;rw[<-Q,<-hS];have ao:=hide G;have aq:=hide u;have HS:=hide hs;have bh:=Zr pre;clear Q hS G u hs;obtain⟨es,ck,hh,J⟩:=aj;have P:=hide (show W.ownsMap prog 198 (plainElem (H:=Unit) prog 3) (R+1) pre.length D from⟨es,ck,hh,J⟩);clear J;have bg:=Lib.bitLen_le K 16 (by omega) y;gi_wp2_with (first
   |(gi_at_mapUpdate;refine wpListIn_mapUpdate_own _ rfl _ _ _ 121 rfl 198 3 U2 underlying121 _ (R+1) pre.length D rfl P.o (by unfold maxLen;omega) _ _ _ rfl rfl (keyOf_int_mk underlying198 (WalkArith.wf_u32 (by omega))) _ [] (plainElem_int underlying3 (WalkArith.wf_i64 (by omega))) ?_;intro w2 M t;have u1:=cell_kept v1 t (fun r e=>by cases e;exact⟨_,hh,rfl⟩);have ba:=(frozen_kept v1 t (fun r e=>by cases e;exact⟨_,hh,rfl⟩)).trans f1;have ap:=hide M;have al:=hide t;clear M t)
   |(refine⟨bT,?_⟩;gi_at_call 155;apply(CallsIn.inRound l (uV.2 (U5 K _ y))).mono;rintro e w3 ⟨rfl,rfl⟩))
  have d:=al.o;have b:∀r,some (R+1)=some r->∃o:Obj,W.heap[r]? =some o/\o.isCells=false:=fun r e=>by cases e;exact⟨_,hh,rfl⟩
  have hs:=HS.o;have af:=hs.big;refine⟨(KeepsFrom.of_grownBy d (fun j e=>by cases e;omega)).trans ((KeepsOthers.setCell _ _ _).from _),⟨?_,?_⟩,?_⟩
  ·exact(cZ _ _ _ _ (by simp)).trans (d.block _ (by omega) (by simp;omega))
  ·exact(cZ _ _ _ _ (by simp;omega)).trans (d.block _ (by omega) (by simp;omega))
  ·have az:=cell_kept hs.v0 d b;have ax:=cell_kept hs.r0 d b;have ay:=cell_kept hs.r1 d b;have bc:¬(R=R+1+1):=(by omega);have ar:=ap.o.setCell (a:=⟨R+1+1,1,none⟩) (by simp) (V ((Lib.bitLen K:Nat)-1:Int));refine⟨?_,?_,?_,?_,?_,?_,?_,⟨_,by rw[aN];exact ar,?_⟩,?_,?_⟩
   ·exact(KV _ _ _ _ (by simp<;>omega)).trans az
   ·rw[ao.o];exact World.cell?_setCell_same' _ _ _ (by rw[u1];rfl)
   ·rw[World.frozen?_setCell];exact ba
   ·exact(KV _ _ _ _ (by simp<;>omega)).trans ax
   ·exact(KV _ _ _ _ (by simp<;>omega)).trans ay
   ·rw[World.frozen?_setCell];exact(frozen_kept hs.r0 d b).trans hs.rf0
   ·rw[World.frozen?_setCell];exact(frozen_kept hs.r1 d b).trans hs.rf1
   ·rw[aq.o];exact Uo hM P.o.isMap K S
   ·exact(hs.below.grown d hs.below.size (fun k e=>by cases e;omega)).setCell (p:=⟨R+1+1,1,none⟩) (by simp;omega) _
   ·have:=d.size;simp[World.setCell];omega
 case done=>
  rintro X ys W be rfl hs Q;have v0:=hs.v0;have v1:=hs.v1;have r0:=hs.r0;have r1:=hs.r1;have rf0:=hs.rf0;have rf1:=hs.rf1;have Z:=au1 L aa hm I 15 (aS _);rw[Z.2]at v1;have HS:=hide hs;have am:=hide Z;clear hs Z;gi_wp2;have af:=HS.o.big;obtain⟨N,z⟩:=aP ((W.setCell (U R 0) (.map (some (R+1)))).setCell (U R 1) (V ((bZ L 15).longest:Nat)));have y:N.heap[X]? =some (.deferred (some [])):=by rw[z];exact(cZ _ _ _ _ (by simp;omega)).trans ((cZ _ _ _ _ (by simp;omega)).trans Q)
  have q0:N.cell? (U R 0)=some (.map (some (R+1))):=by
   rw[z];exact(KV _ _ _ _ (by simp<;>omega)).trans (World.cell?_setCell_same' _ _ _ (by rw[r0];rfl))
  have q1:N.cell? (U R 1)=some (V ((bZ L 15).longest:Nat)):=by
   rw[z];exact World.cell?_setCell_same' _ _ _ (by rw[KV _ _ _ _ (by simp),r1];rfl)
  have ab:Below w.heap.size w N:=by rw[z];exact((HS.o.below.setCell (p:=(U R 0)) ad _).setCell (p:=(U R 1)) ad _)
  have au:TabAt N (R+1) (aI L).tab:=by
   obtain⟨D,hD,hM⟩:=HS.o.own;rw[am.o.1]at hM;have ai:=zR L 15;refine⟨(lU L 15).length,D,?_,?_,hM⟩
   ·omega
   ·rw[z];exact(hD.setCell (a:=(U R 0)) (by simp) _).setCell (a:=(U R 1)) (by simp) _
  rw[<-z];have p0:=cell_kept q0 (grownBy_putObj' N X (.deferred none)) (fun r e=>by cases e;exact⟨_,y,rfl⟩);have p1:=cell_kept q1 (grownBy_putObj' N X (.deferred none)) (fun r e=>by cases e;exact⟨_,y,rfl⟩);have C:Below w.heap.size w (N.putObj X (.deferred none)):=ab.grown (grownBy_putObj' N X (.deferred none)) ab.size (fun k e=>by cases e;omega);have av:TabAt (N.putObj X (.deferred none)) (R+1) (aI L).tab:=au.of (World.putObj_heap_other (by omega));refine⟨by simp, .inl ⟨_,_,rfl,run_takeDeferred y,?_⟩⟩;refine⟨.agg #[.map (some (R+1)),V ((bZ L 15).longest:Nat)],by simp[results,results218,go_sem,p0,p1],R+1,rfl,by omega,av,?_⟩;exact⟨C.os,C.tape,C.output,C.size,fun k hk _=>C.block k hk⟩
 case stop=>
  rintro X c pre W _ _ hx _;exact hx.elim
def a94 {L:aD}(h:fF L=true):0<L.length:=by
 rcases DZ L.length with a|a
 ·rw[kP a]at h;simp[fF,iD,eG]at h
 ·exact a
def vD (g off cap:Nat)(L:aD)(w:aH)(h:Ints w g off L)(a:fF L=true):Calls prog 211 #[.slice (some (U g off)) L.length cap] w fun e w'=>∃mb,e= .returned (.tuple #[.agg #[.map (some mb),V ((aI L).longest:Nat)],V 0])/\w.heap.size<=mb/\TabAt w' mb (aI L).tab/\O w w':=by
 have j:g<w.heap.size:=by
  have l:=h.cell 0 (a94 a);exact kF w _ l
 go_enter func211,ntmps211;go_wp2_with fail;obtain⟨w1,c⟩:=aP (w.alloc (.cells #[.map none,V 0] 123));have b:O w w1:=by rw[c];exact(aU _ _).alloc _
 have d:w1.heap[w.heap.size]? =some (.cells #[.map none,V 0] 123 (0,0)):=by rw[c];exact aR _ _
 rw[<-c];clear c;apply(XO g off cap L w1 (h.step b (fun x=>x))).mono;rintro e w2 ⟨rfl,rfl⟩;rw[a];have k:=b.size;go_wp2_with fail;apply(af3 g off cap L _ (h.step b (fun x=>x)) (by omega) a).mono;rintro e w3 ⟨mb,rfl,n,i,f⟩;obtain⟨r0,r1,rf0,rf1⟩:=gB (f.at_ d (fun x=>x));have m:=aO d;go_wp2_with fail;refine aY (v:= .tuple #[.agg #[.map (some mb),V ((aI L).longest:Nat)],V 0]) (by simp[results,results211,go_sem,r0,r1]) rfl ⟨mb,rfl,by omega,?_,?_⟩
 ·exact i.of ((cZ _ _ _ _ (by simp;omega)).trans (cZ _ _ _ _ (by simp;omega)))
 ·exact((b.trans f).aZ (by simp) _).aZ (by simp) _
def LJ (g off cap:Nat)(L:aD)(w:aH)(h:Ints w g off L)(b:fF L=false):Calls prog 211 #[.slice (some (U g off)) L.length cap] w fun e w'=>e= .returned (.tuple #[.agg #[.map none,V 0],V 7])/\O w w':=by
 go_enter func211,ntmps211;go_wp2_with fail;obtain⟨w1,a⟩:=aP (w.alloc (.cells #[.map none,V 0] 123));have d:O w w1:=by rw[a];exact(aU _ _).alloc _
 have c:w1.heap[w.heap.size]? =some (.cells #[.map none,V 0] 123 (0,0)):=by rw[a];exact aR _ _
 rw[<-a];clear a;apply(XO g off cap L w1 (h.step d (fun x=>x))).mono;rintro e w2 ⟨rfl,rfl⟩;rw[b];obtain⟨r0,r1,rf0,rf1⟩:=gB c;clear c;go_wp2_with fail;refine aY (v:= .tuple #[.agg #[.map none,V 0],V 7]) (by simp[results,results211,go_sem,r0,r1]) rfl ⟨rfl,?_⟩;exact(d.aZ (by simp) _).aZ (by simp) _
def ZX (g off cap:Nat)(L:aD)(w:aH)(h:Ints w g off L)(d:eG L L.length=0):Calls prog 220 #[.slice (some (U g off)) L.length cap] w fun e w'=>e= .returned (.tuple #[.agg #[.map none,V 0],V 0])/\O w w':=by
 go_enter func220,ntmps220;go_wp2_with fail;obtain⟨w1,a⟩:=aP (w.alloc (.cells #[.map none,V 0] 123));have c:O w w1:=by rw[a];exact(aU _ _).alloc _
 have b:w1.heap[w.heap.size]? =some (.cells #[.map none,V 0] 123 (0,0)):=by rw[a];exact aR _ _
 rw[<-a];clear a;apply(DR g off cap L w1 (h.step c (fun x=>x))).mono;rintro e w2 ⟨rfl,rfl⟩;rw[d];obtain⟨r0,r1,rf0,rf1⟩:=gB b;clear b d;go_wp2_with fail;refine aY (v:= .tuple #[.agg #[.map none,V 0],V 0]) (by simp[results,results220,go_sem,r0,r1]) rfl ⟨rfl,?_⟩;exact(c.aZ (by simp) _).aZ (by simp) _
end Go.Proofs.YtbpahojchgpdnaaGreatDoor
