import Derived.Test.YtbpahojchgpdnaaGreatDoorZlibB
set_option maxRecDepth 20000
set_option maxHeartbeats 4000000
set_option linter.all false
namespace Go.Proofs.YtbpahojchgpdnaaGreatDoor
open Go.RowKit Go.dM Go.Maps Go.Proofs.Tryz
variable {B l:aD} {f p q z:Nat} {w w':aH}
inductive lI (B:aD):Nat->aD->Bool->Nat->Prop
 |miss (p:Nat) (h:8*B.length<p+8):lI B p [] false p
 |zero (p:Nat) (h:p+8<=8*B.length) (hz:aG B p 8=0):lI B p [] true (p+8)
 |more (p:Nat) (l:aD) (ok:Bool) (q:Nat) (h:p+8<=8*B.length) (hz:aG B p 8≠0) (ht:lI B (p+8) l ok q):lI B p (aG B p 8::l) ok q
def TS (B:aD):∀k p,8*B.length<=p+k->∃l ok q,lI B p l ok q:=by
 intro k;induction k with
 |zero=>intro p h;exact⟨_,_,_, .miss p (by omega)⟩
 |succ k ih=>
  intro p h;by_cases a:p+8<=8*B.length
  ·by_cases b:aG B p 8=0
   ·exact⟨_,_,_, .zero p a b⟩
   ·obtain⟨l,ok,q,c⟩:=ih (p+8) (by omega);exact⟨_,_,_, .more p l ok q a b c⟩
  ·exact⟨_,_,_, .miss p (by omega)⟩
def lI.le {ok:Bool}(h:lI B p l ok q)(hp:p<=8*B.length):p<=q/\q<=8*B.length/\(p%8=0->q%8=0):=by
 induction h with
 |miss p h=>exact⟨by omega,hp,id⟩
 |zero p h c=>exact⟨by omega,h,fun _=>by omega⟩
 |more p l ok q h c e ih=>
  obtain⟨d,a,b⟩:=ih h;exact⟨by omega,a,fun x=>b (by omega)⟩
def lI.len {ok:Bool}(h:lI B p l ok q):p+8*l.length<=8*B.length\/l=[]:=by
 induction h with
 |miss p h=>exact .inr rfl
 |zero p h a=>exact .inr rfl
 |more p l ok q h a b ih=>
  left;rcases ih with ih|ih
  ·simp;omega
  ·subst ih;simpa using h
def lI.bytes {ok:Bool}(h:lI B p l ok q):iR l:=by
 induction h with
 |miss p h=>intro y a;simp at a
 |zero p h b=>intro y a;simp at a
 |more p l ok q h b c ih=>
  intro y a;rcases fE.1 a with rfl|a
  ·exact bO B p 8
  ·exact ih y a
def uG (c:Nat):aD:=if c<128 then[c]else[192+c/64,128+c%64]
def gY (l:aD):aD:=l.flatMap uG
def eP (l:aD):bY:=⟨(l.map UInt8.ofNat).toArray⟩
def qI (x:Nat)(nm:aD)(e:Nat)(out:aD)(used:Nat)(name:aD):Prop:=e=x/\out=[]/\used=0/\name=nm
def BZ (B:aD)(q:Nat)(o nm:aD)(e:Nat)(out:aD)(used:Nat)(name:aD):Prop:=
 out=o/\name=nm/\if q+32<=8*B.length then(if aG B q 32=o.length then e=0/\used=q/8+4 else e=12/\used=0)else e=3/\used=0
def pF (B:aD)(q:Nat)(o nm:aD)(e:Nat)(out:aD)(used:Nat)(name:aD):Prop:=
 if q+32<=8*B.length then(if aG B q 32=aL 0 o then BZ B (q+32) o nm e out used name else e=12/\out=o/\used=0/\name=nm)else e=3/\out=o/\used=0/\name=nm
def rY (B:aD)(most p:Nat)(nm:aD)(e:Nat)(out:aD)(used:Nat)(name:aD):Prop:=
 ∃n e1 o1 q1,eZ B n (qJ most p) e1 o1 q1/\if e1=0 then pF B q1 o1 nm e out used name else e=e1/\out=o1/\used=0/\name=nm
def jG (B:aD)(most fl p:Nat)(nm:aD)(e:Nat)(out:aD)(used:Nat)(name:aD):Prop:=
 if fl/2%2=1 then(if p+16<=8*B.length then(if aG B p 16=aL 0 (B.take (p/8))%65536 then rY B most (p+16) nm e out used name else qI 12 nm e out used name)else qI 3 nm e out used name)else rY B most p nm e out used name
def gX (B:aD)(most fl p:Nat)(nm:aD)(e:Nat)(out:aD)(used:Nat)(name:aD):Prop:=
 if fl/16%2=1 then∃l ok q,lI B p l ok q/\if ok=true then jG B most fl q nm e out used name else qI 3 nm e out used name else jG B most fl p nm e out used name
def jW (B:aD)(most fl p:Nat)(l0:aD)(e:Nat)(out:aD)(used:Nat)(name:aD):Prop:=
 if fl/8%2=1 then∃l ok q,lI B p l ok q/\if ok=true then gX B most fl q (gY (l0++l)) e out used name else qI 3 [] e out used name else gX B most fl p [] e out used name
def nV (B:aD)(most fl p left:Nat)(e:Nat)(out:aD)(used:Nat)(name:aD):Prop:=
 if fl/4%2=1 then(if p+8*left<=8*B.length then jW B most fl (p+8*left) [] e out used name else qI 3 [] e out used name)else jW B most fl p [] e out used name
def kT (B:aD)(most fl p:Nat)(e:Nat)(out:aD)(used:Nat)(name:aD):Prop:=
 if fl/4%2=1 then(if p+16<=8*B.length then nV B most fl (p+16) (aG B p 16) e out used name else qI 3 [] e out used name)else jW B most fl p [] e out used name
def qA (B:aD)(most fl p left:Nat)(e:Nat)(out:aD)(used:Nat)(name:aD):Prop:=
 if p+8*left<=8*B.length then kT B most fl (p+8*left) e out used name else qI 3 [] e out used name
def jU (B:aD)(most p:Nat)(e:Nat)(out:aD)(used:Nat)(name:aD):Prop:=
 if p+8<=8*B.length then(if aG B p 8<32 then qA B most (aG B p 8) (p+8) 6 e out used name else qI 4 [] e out used name)else qI 3 [] e out used name
def mO (B:aD)(m p:Nat)(K:Nat->aD->Nat->aD->Prop)(e:Nat)(out:aD)(used:Nat)(name:aD):Prop:=
 if p+8<=8*B.length then(if aG B p 8=m then K e out used name else qI 4 [] e out used name)else qI 3 [] e out used name
def gz2 (B:aD)(most:Nat):Nat->aD->Nat->aD->Prop:=mO B 8 16 (jU B most 24)
def gz1 (B:aD)(most:Nat):Nat->aD->Nat->aD->Prop:=mO B 139 8 (gz2 B most)
def xA (B:aD)(most:Nat):Nat->aD->Nat->aD->Prop:=mO B 31 0 (gz1 B most)
def Has (K:Nat->aD->Nat->aD->Prop):Prop:=∃e out used name,K e out used name
def zO (x:Nat)(nm:aD):Has (qI x nm):=⟨_,_,_,_,rfl,rfl,rfl,rfl⟩
def Yj (B:aD)(q:Nat)(o nm:aD):Has (BZ B q o nm):=by
 unfold Has BZ;by_cases a:q+32<=8*B.length
 ·by_cases b:aG B q 32=o.length
  ·exact⟨0,o,q/8+4,nm,rfl,rfl,by rw[aA a,aA b];exact⟨rfl,rfl⟩⟩
  ·exact⟨12,o,0,nm,rfl,rfl,by rw[aA a,aB b];exact⟨rfl,rfl⟩⟩
 ·exact⟨3,o,0,nm,rfl,rfl,by rw[aB a];exact⟨rfl,rfl⟩⟩
def Zt (B:aD)(q:Nat)(o nm:aD):Has (pF B q o nm):=by
 unfold Has pF;by_cases a:q+32<=8*B.length
 ·by_cases b:aG B q 32=aL 0 o
  ·simp only[aA a,aA b];exact Yj B _ o nm
  ·simp only[aA a,aB b];exact⟨_,_,_,_,rfl,rfl,rfl,rfl⟩
 ·simp only[aB a];exact⟨_,_,_,_,rfl,rfl,rfl,rfl⟩
def Bt (B:aD)(most p:Nat)(nm:aD)(hp:p<=8*B.length):Has (rY B most p nm):=by
 obtain⟨n,a,o1,b,c⟩:=O9 B (xS B (qJ most p)+1) (qJ most p) (by simpa[qJ]using hp) (by omega);by_cases h:a=0
 ·obtain⟨e,out,used,name,d⟩:=Zt B b o1 nm;exact⟨e,out,used,name,n,a,o1,b,c,by rw[aA h];exact d⟩
 ·exact⟨a,o1,0,nm,n,a,o1,b,c,by rw[aB h];exact⟨rfl,rfl,rfl,rfl⟩⟩
def XI (B:aD)(most fl p:Nat)(nm:aD)(hp:p<=8*B.length):Has (jG B most fl p nm):=by
 unfold Has jG;by_cases b:fl/2%2=1
 ·simp only[aA b];by_cases a:p+16<=8*B.length
  ·simp only[aA a];by_cases c:aG B p 16=aL 0 (B.take (p/8))%65536
   ·simp only[aA c];exact Bt B most _ nm a
   ·simp only[aB c];exact zO _ _
  ·simp only[aB a];exact zO _ _
 ·simp only[aB b];exact Bt B most p nm hp
def PV (B:aD)(most fl p:Nat)(nm:aD)(hp:p<=8*B.length):Has (gX B most fl p nm):=by
 unfold Has gX;by_cases b:fl/16%2=1
 ·simp only[aA b];obtain⟨l,ok,q,a⟩:=TS B (8*B.length) p (by omega);cases ok with
  |true=>
   obtain⟨e,out,used,name,hk⟩:=XI B most fl q nm (a.le hp).2.1;exact⟨e,out,used,name,l,true,q,a,by rw[aA rfl];exact hk⟩
  |false=>exact⟨3,[],0,nm,l,false,q,a,by rw[aB (by simp)];exact⟨rfl,rfl,rfl,rfl⟩⟩
 ·simp only[aB b];exact XI B most fl p nm hp
def U4 (B:aD)(most fl p:Nat)(hp:p<=8*B.length):Has (jW B most fl p []):=by
 unfold Has jW;by_cases b:fl/8%2=1
 ·simp only[aA b];obtain⟨l,ok,q,a⟩:=TS B (8*B.length) p (by omega);cases ok with
  |true=>
   obtain⟨e,out,used,name,hk⟩:=PV B most fl q (gY ([]++l)) (a.le hp).2.1;exact⟨e,out,used,name,l,true,q,a,by rw[aA rfl];exact hk⟩
  |false=>exact⟨3,[],0,[],l,false,q,a,by rw[aB (by simp)];exact⟨rfl,rfl,rfl,rfl⟩⟩
 ·simp only[aB b];exact PV B most fl p [] hp
def Xg (B:aD)(most fl p left:Nat)(hp:p<=8*B.length):Has (nV B most fl p left):=by
 unfold Has nV;by_cases b:fl/4%2=1
 ·simp only[aA b];by_cases a:p+8*left<=8*B.length
  ·simp only[aA a];exact U4 B most fl _ a
  ·simp only[aB a];exact zO _ _
 ·simp only[aB b];exact U4 B most fl p hp
def Rx (B:aD)(most fl p:Nat)(hp:p<=8*B.length):Has (kT B most fl p):=by
 unfold Has kT;by_cases b:fl/4%2=1
 ·simp only[aA b];by_cases a:p+16<=8*B.length
  ·simp only[aA a];exact Xg B most fl _ _ a
  ·simp only[aB a];exact zO _ _
 ·simp only[aB b];exact U4 B most fl p hp
def Rp (B:aD)(most p:Nat):Has (jU B most p):=by
 unfold Has jU;by_cases b:p+8<=8*B.length
 ·simp only[aA b];by_cases c:aG B p 8<32
  ·simp only[aA c];unfold qA;by_cases a:p+8+8*6<=8*B.length
   ·simp only[aA a];exact Rx B most _ _ a
   ·simp only[aB a];exact zO _ _
  ·simp only[aB c];exact zO _ _
 ·simp only[aB b];exact zO _ _
def QO (B:aD)(m p:Nat)(K:Nat->aD->Nat->aD->Prop)(h:Has K):Has (mO B m p K):=by
 unfold Has mO;by_cases a:p+8<=8*B.length
 ·simp only[aA a];by_cases b:aG B p 8=m
  ·simp only[aA b];exact h
  ·simp only[aB b];exact zO _ _
 ·simp only[aB a];exact zO _ _
def ad7 (B:aD)(most:Nat):∃e out used name,xA B most e out used name:=QO B 31 0 _ (QO B 139 8 _ (QO B 8 16 _ (Rp B most 24)))
def LH (B:aD)(k n:Nat)(h:n<=8):aG B (8*k) n=B[k]?.getD 0%2^n:=by
 induction n with
 |zero=>simp[aG,Nat.mod_one]
 |succ n ih=>
  have a:(8*k+n)/8=k:=by omega
  have b:(8*k+n)%8=n:=by omega
  unfold aG bK;rw[ih (by omega),a,b,gW,Nat.mod_mul];rw[nH]
def Oi (B:aD)(k:Nat)(a:iR B)(hk:k<B.length):aG B (8*k) 8=B[k]:=by rw[LH B k 8 (aS _),bV hk];exact kC (a _ (vE hk))
def DL (B:aD)(p m n:Nat):aG B p (m+n)=aG B p m+2^m*aG B (p+m) n:=by
 induction n with
 |zero=>simp[aG]
 |succ n ih=>
  show aG B p (m+n)+bK B (p+(m+n))*2^(m+n)=_;rw[ih];show _=aG B p m+2^m*(aG B (p+m) n+bK B (p+m+n)*2^n);rw[oZ,<-iV p m n,Nat.mul_add,iV,Nat.mul_left_comm (2^m)]
def xR (B:aD)(p:Nat)(a:iR B)(b:p%8=0)(hp:p+8<=8*B.length):aL (aL 0 (B.take (p/8))) [aG B p 8]=aL 0 (B.take ((p+8)/8)):=by
 obtain⟨k,rfl⟩:∃k,p=8*k:=⟨p/8,by omega⟩
 have hk:k<B.length:=by omega
 rw[Oi B k a hk,show 8*k/8=k by omega,show(8*k+8)/8=k+1 by omega,<-vR 0 _ _ (a.take k),LB hk]
def ae0 (B:aD)(p:Nat)(a:iR B)(c:p%8=0)(hp:p+16<=8*B.length):aL (aL 0 (B.take (p/8))) [aG B p 16%256,aG B p 16/256]=aL 0 (B.take ((p+16)/8)):=by have e:aG B p 16=aG B p 8+2^8*aG B (p+8) 8:=DL B p 8 8;have g:aG B p 8<2^8:=bO B p 8;rw[show aG B p 16%256=aG B p 8 by omega,show aG B p 16/256=aG B (p+8) 8 by omega];have b:aL (aL 0 (B.take (p/8))) [aG B p 8,aG B (p+8) 8]=aL (aL (aL 0 (B.take (p/8))) [aG B p 8]) [aG B (p+8) 8]:=vR _ [aG B p 8] [aG B (p+8) 8] (fun x d=>by simp at d;omega);rw[b,xR B p a c (by omega),xR B (p+8) a (by omega) (by omega)]
def Qa:∀a,a<32->a&&&4=a/4%2*4:=by decide +kernel
def ar7:∀a,a<32->a&&&8=a/8%2*8:=by decide +kernel
def Zf:∀a,a<32->a&&&16=a/16%2*16:=by decide +kernel
def and_2:∀a,a<32->a&&&2=a/2%2*2:=by decide +kernel
abbrev rP (w:aH)(X D fl left head:Nat)(lv:aK)(check size:Nat):Prop:=w.heap[X]? =some (.cells #[E D,V (fl:Nat),V (left:Nat), .int .u32 (head:Nat),lv, .int .u32 (check:Nat), .int .u32 (size:Nat)] 137 (0,0))
def JN (X D f d g off cap z p fl left head check size:Nat)(I:aK)(B:aD)(parts R:aK)(nm:bY)(w:aH)(G:rP w X D fl left head I check size)(M:gQ w D f d parts R nm)(C:bN w f (.slice (bE g off B.length) B.length cap) p z)(K:Go.dM.ay5 w g off B)(A:g≠f)(t:X≠f)(hp:p<=8*B.length)(hh:head<4294967296):Calls prog 122 #[E X] w (jY 8 p B f (.slice (bE g off B.length) B.length cap) z w fun r w'=>r= .returned (V (aG B p 8:Nat))/\rP w' X D fl left (aL head [aG B p 8]) I check size/\Step (fun k=>k=f\/k=X) w w'):=by
 have S:w.cell? (U X 0)=some (E D):=aC G 0 _ rfl;have T:w.cell? (U D 0)=some (E f):=aC M 0 _ rfl;by_cases m:p+8<=8*B.length
 ·have P:=bO B p 8;have F:=hide (dO f g off cap z p 8 B w C K A (by omega) m);have N:=aO G;generalize aG B p 8=c at*;have W:c<256:=P;go_enter func122,ntmps122;go_wp2_with fail;apply F.o.mono;rintro r w1 ⟨rfl,a⟩;have n:=a.step.at_ G t;have z3:w1.cell? (U X 3)=some (.int .u32 (head:Nat)):=aC n 3 _ rfl;have zf:w1.frozen? (U X 3)=false:=aJ n 3;go_wp2_with fail;obtain⟨w2,e⟩:=aP (w1.alloc (.cells #[.int .u8 (c:Nat)] 5));have b:O w1 w2:=by rw[e];exact(aU _ _).alloc _
  have u:tZ w2 (.slice (some (U w1.heap.size 0)) 1 1) [c]:= .inr ⟨w1.heap.size,0,1,rfl,fun i hi=>by
   have H:i=0:=(by simp at hi;exact hi);subst H;rw[e];exact jO (aR _ _)⟩
  rw[<-e];clear e;refine(tC head (.slice (some (U w1.heap.size 0)) 1 1) [c] w2 hh u (by intro y Q;simp at Q;omega) (by simp)).mono ?_;rintro r w3 ⟨rfl,rfl⟩;have j:=b.at_ n (fun x=>x);have Y:w3.cell? (U X 3)=some (.int .u32 (head:Nat)):=aC j 3 _ rfl;have Z:w3.frozen? (U X 3)=false:=aJ j 3;have v:bN w3 f (.slice (bE g off B.length) B.length cap) (p+8) z:=b.at_ (a.feed _ _ _ _ C) (fun x=>x);have s:=hide (show jY 8 p B f (.slice (bE g off B.length) B.length cap) z w (fun r w'=>r= .returned (V c)/\rP w' X D fl left (aL head [c]) I check size/\Step (fun k=>k=f\/k=X) w w') (.returned (V c)) (w3.setCell (U X 3) (.int .u32 (aL head [c]:Nat))) from by
   refine .inl ⟨m,((aU (·=X) w3).setCell (p:=(U X 3)) rfl _).at_ v (fun x=>t x.symm),rfl,?_,?_⟩
   ·have L:=aV j 3 (.int .u32 (aL head [c]:Nat));simpa using L
   ·exact((a.step.mono (fun k x=> .inl x)).trans (b.mono (fun _ x=>x.elim))).setCell (p:=(U X 3)) (.inr rfl) _)
  clear j v b u m;go_wp2_with fail;go_ret;exact s.o
 ·have F:=hide (dL f g off cap z p 8 B w C K A (by omega) hp (by omega));go_enter func122,ntmps122;go_wp2_with fail;apply F.o.mono;rintro r w1 ⟨rfl,a⟩;have J:=hide (show bN w1 f (.slice (bE g off B.length) B.length cap) (8*B.length) z/\Step (·=f) w w1 from⟨a.feed _ _ _ _ C,a.step⟩);go_wp2_with fail;exact⟨rfl, .inr ⟨by omega,rfl,J.o.1,J.o.2⟩⟩
def rO (nb p:Nat)(B:aD)(f:Nat)(s:aK)(z X D d fl left head:Nat)(lv:aK)(check size:Nat)(parts vo:aK)(nm:bY)(thr:Bool)(e:Nat)(S:Nat->Prop)(w:aH):Ending->aH->Prop:=
 jY nb p B f s z w fun r w'=>r= .returned (.tuple #[.bool thr,V (e:Nat)])/\rP w' X D fl left head lv check size/\gQ w' D f d parts vo nm/\Step S w w'
def jY.ok {n:Nat}{s:aK}{Q:Ending->aH->Prop}{r:Ending}(h:jY n p B f s z w Q r w')(a:p+n<=8*B.length):bN w' f s (p+n) z/\Q r w':=by
 rcases h with h|h
 ·exact h.2
 ·have:=h.1;omega
def jY.lost {n:Nat}{s:aK}{Q:Ending->aH->Prop}{r:Ending}(h:jY n p B f s z w Q r w')(a:¬p+n<=8*B.length):r=Go.Proofs.YtbpahojchgpdnaaGreatDoor.lost/\bN w' f s (8*B.length) z/\Step (·=f) w w':=by
 rcases h with h|h
 ·exact absurd h.1 a
 ·exact h.2
def ac9 (a b m X D f d g off cap z p fl left head check size:Nat)(A:aK)(B:aD)(parts F:aK)(nm:bY)(w:aH)(T:rP w X D fl left head A check size)(K:gQ w D f d parts F nm)(R:bN w f (.slice (bE g off B.length) B.length cap) p z)(S:Go.dM.ay5 w g off B)(Q:g≠f)(N:X≠f)(M:D≠f)(L:D≠X)(hp:p<=8*B.length)(hh:head<4294967296)(ha:w.cell? (U a 0)=some (E X))(W:w.cell? (U b 0)=some (V m))(y:b≠f/\b≠X)(e:Nat)(Y:e=if aG B p 8=m then 0 else 4):Calls prog 121 #[E a,E b] w (rO 8 p B f (.slice (bE g off B.length) B.length cap) z X D d fl left (aL head [aG B p 8]) A check size parts F nm true e (fun k=>k=f\/k=X) w):=by
 have i:=(aU (fun _=>False) w).drew;have J:=JN X D f d g off cap z p fl left head check size A B parts F nm w.drew (i.at_ T (fun x=>x)) (i.at_ K (fun x=>x)) (i.at_ R (fun x=>x)) (S.step i (fun x=>x)) Q N hp hh;have Z:=hide K;have H:=hide Y;clear T K R S Y;by_cases n:p+8<=8*B.length
 ·have G:=hide (J.mono (fun r w' h=>h.ok n));have hx:=bO B p 8;have I:=hide (show∀w',bN w' f (.slice (bE g off B.length) B.length cap) (p+8) z->rP w' X D fl left (aL head [aG B p 8]) A check size->Step (fun k=>k=f\/k=X) w.drew w'->rO 8 p B f (.slice (bE g off B.length) B.length cap) z X D d fl left (aL head [aG B p 8]) A check size parts F nm true e (fun k=>k=f\/k=X) w (.returned (.tuple #[.bool true,V e])) w' from fun w' s t v=>
   .inl ⟨n,s,rfl,t,v.at_ (i.at_ Z.o (fun x=>x)) (fun x=>x.elim M L),(i.mono (fun _ x=>x.elim)).trans v⟩)
  clear J n i;generalize aG B p 8=c at*;have HB:=hide (show¬(b=f\/b=X) from fun x=>x.elim y.1 y.2);clear y;by_cases u:c=m
  ·have P:((c:Int)==(m:Int))=true:=dI.2 (by omega);have j:=hide (show e=0 by rw[H.o,aA u]);clear H u;go_enter func121,ntmps121;go_wp2_with fail
   go_region_with
    (first
     |(go_at_call 122;apply G.o.mono;rintro r w1 ⟨s,rfl,t,v⟩;have k1:=v.cell (p:=(U b 0)) (w:=w.drew) W HB.o)
     |(go_at_call 120;apply(gU true 4 _).mono;rintro r w2 ⟨rfl,rfl⟩))
   all_goals
    go_wp2_with fail;go_ret2;have C:=I.o _ s t v;rw[j.o]at C;rw[j.o];exact C
  ·have P:((c:Int)==(m:Int))=false:=aX.2 (by omega);have j:=hide (show e=4 by rw[H.o,aB u]);clear H u;go_enter func121,ntmps121;go_wp2_with fail
   go_region_with
    (first
     |(go_at_call 122;apply G.o.mono;rintro r w1 ⟨s,rfl,t,v⟩;have k1:=v.cell (p:=(U b 0)) (w:=w.drew) W HB.o)
     |(go_at_call 120;apply(gU false 4 _).mono;rintro r w2 ⟨rfl,rfl⟩))
   all_goals
    go_wp2_with fail;go_ret2;have C:=I.o _ s t v;rw[j.o]at C;rw[j.o];exact C
 ·have G:=hide (J.mono (fun r w' h=>h.lost n));have I:=hide (show∀w',bN w' f (.slice (bE g off B.length) B.length cap) (8*B.length) z->Step (·=f) w.drew w'->rO 8 p B f (.slice (bE g off B.length) B.length cap) z X D d fl left (aL head [aG B p 8]) A check size parts F nm true e (fun k=>k=f\/k=X) w lost w' from fun w' s t=>
   .inr ⟨by omega,rfl,s,(i.mono (fun _ x=>x.elim)).trans t⟩)
  clear J n i;go_enter func121,ntmps121;go_wp2_with fail;go_region_dies;all_goals
   apply G.o.mono;rintro r w1 ⟨rfl,s,t⟩;exact⟨rfl,I.o w1 s t⟩
structure Ik (w:aH)(X D f d g off cap z p fl left head:Nat)(lv:aK)(check size:Nat)(B:aD)(parts vo:aK)(nm:bY):Prop where
 gz:rP w X D fl left head lv check size
 dec:gQ w D f d parts vo nm
 feed:bN w f (.slice (bE g off B.length) B.length cap) p z
 src:Go.dM.ay5 w g off B
 gf:g≠f
 Xf:X≠f
 Df:D≠f
 DX:D≠X
 here:p<=8*B.length
 hh:head<4294967296
def Ik.step0 {X D d g off cap fl left head:Nat}{a:aK}{check size:Nat}{parts b:aK}{nm:bY}(h:Ik w X D f d g off cap z p fl left head a check size B parts b nm)(hs:O w w'):Ik w' X D f d g off cap z p fl left head a check size B parts b nm:=⟨hs.at_ h.gz (fun x=>x),hs.at_ h.dec (fun x=>x),hs.at_ h.feed (fun x=>x),h.src.step hs (fun x=>x),h.gf,h.Xf,h.Df,h.DX,h.here,h.hh⟩
def Ik.byte {X D d g off cap fl left head:Nat}{a:aK}{check size:Nat}{parts b:aK}{nm:bY}(h:Ik w X D f d g off cap z p fl left head a check size B parts b nm):Calls prog 122 #[E X] w (jY 8 p B f (.slice (bE g off B.length) B.length cap) z w fun r w'=>r= .returned (V (aG B p 8:Nat))/\rP w' X D fl left (aL head [aG B p 8]) a check size/\Step (fun k=>k=f\/k=X) w w'):=JN X D f d g off cap z p fl left head check size a B parts b nm w h.gz h.dec h.feed h.src h.gf h.Xf h.here h.hh
def am4:∀a,a<256->a&&&224=a/32*32:=by decide +kernel
def VX (X D f d g off cap z p fl left head check size:Nat)(t:aK)(B:aD)(parts v:aK)(nm:bY)(w:aH)(h:Ik w X D f d g off cap z p fl left head t check size B parts v nm)(e:Nat)(J:e=if aG B p 8<32 then 0 else 4):Calls prog 80 #[E X] w (rO 8 p B f (.slice (bE g off B.length) B.length cap) z X D d (aG B p 8) left (aL head [aG B p 8]) t check size parts v nm true e (fun k=>k=f\/k=X) w):=by
 have K:=hide h.dec;have F:=h.DX;have G:=h.Df;have H:=h.Xf;have I:=h.byte;by_cases n:p+8<=8*B.length
 ·have y:=hide (I.mono (fun r w' h=>h.ok n));have P:=bO B p 8;have A:=hide (show∀w',bN w' f (.slice (bE g off B.length) B.length cap) (p+8) z->rP w' X D fl left (aL head [aG B p 8]) t check size->Step (fun k=>k=f\/k=X) w w'->rO 8 p B f (.slice (bE g off B.length) B.length cap) z X D d (aG B p 8) left (aL head [aG B p 8]) t check size parts v nm true e (fun k=>k=f\/k=X) w (.returned (.tuple #[.bool true,V e])) (w'.setCell (U X 1) (V (aG B p 8:Nat))) from fun w' j a C=>by
   have hs:Step (fun k=>k=f\/k=X) w (w'.setCell (U X 1) (V (aG B p 8:Nat))):=C.setCell (p:=(U X 1)) (.inr rfl) _;refine .inl ⟨n,((aU (·=X) w').setCell (p:=(U X 1)) rfl _).at_ j (fun x=>H x.symm),rfl,?_,hs.at_ K.o (fun x=>x.elim G F),hs⟩;have u:=aV a 1 (V (aG B p 8:Nat));simpa using u)
  generalize aG B p 8=c at*;have N:c<256:=P;have m:=OU c 224 (by omega) (by omega);rw[am4 c N]at m;have m:bits .and .i64 (c:Int) 224=((c/32*32:Nat):Int):=m;go_enter func80,ntmps80;go_wp2_with fail;apply y.o.mono;rintro r w1 ⟨j,rfl,a,C⟩;have Q:w1.cell? (U X 1)=some (V fl):=aC a 1 _ rfl;have R:w1.frozen? (U X 1)=false:=aJ a 1;have L:=aO a;have i:=hide (A.o w1 j a C);by_cases s:c<32;focus
   have M:((c:Int)/32*32==0)=true:=dI.2 (by omega);have b:=hide (show e=0 by rw[J,aA s]);go_wp2_with fail;apply(gU true 4 _).mono
  rotate_left;focus
   have M:((c:Int)/32*32==0)=false:=aX.2 (by omega);have b:=hide (show e=4 by rw[J,aB s]);go_wp2_with fail;apply(gU false 4 _).mono
  all_goals
   rintro r w2 ⟨rfl,rfl⟩;go_wp2_with fail;go_ret2;have u:=i.o;rw[b.o]at u;rw[b.o];exact u
 ·have y:=hide (I.mono (fun r w' h=>h.lost n));have A:=hide (show∀w',bN w' f (.slice (bE g off B.length) B.length cap) (8*B.length) z->Step (·=f) w w'->rO 8 p B f (.slice (bE g off B.length) B.length cap) z X D d (aG B p 8) left (aL head [aG B p 8]) t check size parts v nm true e (fun k=>k=f\/k=X) w lost w' from fun w' j a=> .inr ⟨by omega,rfl,j,a⟩);go_enter func80,ntmps80;go_wp2_with fail;apply y.o.mono;rintro r w1 ⟨rfl,j,a⟩;have i:=hide (A.o w1 j a);go_wp2_with fail;exact⟨rfl,i.o⟩
def Xj (X D f d g off cap z p fl left head check size:Nat)(i:aK)(B:aD)(parts s:aK)(nm:bY)(w:aH)(h:Ik w X D f d g off cap z p fl left head i check size B parts s nm)(K:0<left)(L:left<1000000)(thr:Bool)(G:thr=(left==1)):Calls prog 81 #[E X] w (rO 8 p B f (.slice (bE g off B.length) B.length cap) z X D d fl (left-1) (aL head [aG B p 8]) i check size parts s nm thr 0 (fun k=>k=f\/k=X) w):=by
 have H:=hide h.dec;have C:=hide G;have u:=h.DX;have v:=h.Df;have y:=h.Xf;have t:=h.byte;have c2:w.cell? (U X 2)=some (V left):=aC h.gz 2 _ rfl;clear h G;by_cases b:p+8<=8*B.length
 ·have j:=hide (t.mono (fun r w' h=>h.ok b));have m:=hide (show∀w',bN w' f (.slice (bE g off B.length) B.length cap) (p+8) z->rP w' X D fl left (aL head [aG B p 8]) i check size->Step (fun k=>k=f\/k=X) w w'->rO 8 p B f (.slice (bE g off B.length) B.length cap) z X D d fl (left-1) (aL head [aG B p 8]) i check size parts s nm thr 0 (fun k=>k=f\/k=X) w (.returned (.tuple #[.bool thr,V ((0:Nat):Int)])) (w'.setCell (U X 2) (V ((left:Int)-1))) from fun w' c a n=>by
   have hs:Step (fun k=>k=f\/k=X) w (w'.setCell (U X 2) (V ((left:Int)-1))):=n.setCell (p:=(U X 2)) (.inr rfl) _;refine .inl ⟨b,((aU (·=X) w').setCell (p:=(U X 2)) rfl _).at_ c (fun x=>y x.symm),rfl,?_,hs.at_ H.o (fun x=>x.elim v u),hs⟩;have F:=aV a 2 (V ((left:Int)-1));rw[show((left:Int)-1)=((left-1:Nat):Int) by omega]at F|-
   simpa using F)
  clear t b;have A:(left:Int)>0:=by omega
  go_enter func81,ntmps81;go_wp2_with fail;apply j.o.mono;rintro r w1 ⟨c,rfl,a,n⟩;have M:w1.cell? (U X 2)=some (V left):=aC a 2 _ rfl;have N:w1.frozen? (U X 2)=false:=aJ a 2;have I:=aO a;have e:=hide (m.o w1 c a n);clear c a n m j;have J:((left:Int)-1==0)=thr:=by
   rw[C.o,Bool.eq_iff_iff,dI,dI];omega
  clear C;go_wp2_with fail;go_ret2;exact e.o
 ·have j:=hide (t.mono (fun r w' h=>h.lost b));have m:=hide (show∀w',bN w' f (.slice (bE g off B.length) B.length cap) (8*B.length) z->Step (·=f) w w'->rO 8 p B f (.slice (bE g off B.length) B.length cap) z X D d fl (left-1) (aL head [aG B p 8]) i check size parts s nm thr 0 (fun k=>k=f\/k=X) w lost w' from fun w' c a=> .inr ⟨by omega,rfl,c,a⟩);have A:(left:Int)>0:=by omega
  go_enter func81,ntmps81;go_wp2_with fail;apply j.o.mono;rintro r w1 ⟨rfl,c,a⟩;have e:=hide (m.o w1 c a);go_wp2_with fail;exact⟨rfl,e.o⟩
def Rl (X D f d g off cap z p fl left head check size:Nat)(a:aK)(B:aD)(parts b:aK)(nm:bY)(w:aH)(h:Ik w X D f d g off cap z p fl left head a check size B parts b nm)(c:left=0):Calls prog 81 #[E X] w (rO 0 p B f (.slice (bE g off B.length) B.length cap) z X D d fl 0 head a check size parts b nm true 0 (fun k=>k=f\/k=X) w):=by subst c;have c2:w.cell? (U X 2)=some (V ((0:Nat):Int)):=aC h.gz 2 _ rfl;go_enter func81,ntmps81;go_wp2_with fail;go_ret2;exact .inl ⟨h.here,h.feed,rfl,h.gz,h.dec,aU _ _⟩
def Iq (X D f d g off cap z p fl left head check size:Nat)(m:aK)(B:aD)(parts t:aK)(nm:bY)(w:aH)(h:Ik w X D f d g off cap z p fl left head m check size B parts t nm)(thr:Bool)(C:thr=(aG B p 8==0)):Calls prog 85 #[E X] w (rO 8 p B f (.slice (bE g off B.length) B.length cap) z X D d fl left (aL head [aG B p 8]) m check size parts t nm thr 0 (fun k=>k=f\/k=X) w):=by
 have F:=hide h.dec;have A:=hide C;have v:=h.DX;have y:=h.Df;have G:=h.Xf;have u:=h.byte;clear h C;by_cases a:p+8<=8*B.length
 ·have n:=hide (u.mono (fun r w' h=>h.ok a));have s:=hide (show∀w',bN w' f (.slice (bE g off B.length) B.length cap) (p+8) z->rP w' X D fl left (aL head [aG B p 8]) m check size->Step (fun k=>k=f\/k=X) w w'->rO 8 p B f (.slice (bE g off B.length) B.length cap) z X D d fl left (aL head [aG B p 8]) m check size parts t nm thr 0 (fun k=>k=f\/k=X) w (.returned (.tuple #[.bool thr,V ((0:Nat):Int)])) w' from fun w' b e j=>
   .inl ⟨a,b,rfl,e,j.at_ F.o (fun x=>x.elim y v),j⟩)
  clear u a;generalize aG B p 8=c at*;have H:((c:Int)==0)=thr:=by
   rw[A.o,Bool.eq_iff_iff,dI,dI];omega
  clear A;go_enter func85,ntmps85;go_wp2_with fail;apply n.o.mono;rintro r w1 ⟨b,rfl,e,j⟩;have i:=hide (s.o w1 b e j);clear b e j s n;go_wp2_with fail;go_ret2;exact i.o
 ·have n:=hide (u.mono (fun r w' h=>h.lost a));have s:=hide (show∀w',bN w' f (.slice (bE g off B.length) B.length cap) (8*B.length) z->Step (·=f) w w'->rO 8 p B f (.slice (bE g off B.length) B.length cap) z X D d fl left (aL head [aG B p 8]) m check size parts t nm thr 0 (fun k=>k=f\/k=X) w lost w' from fun w' b e=> .inr ⟨by omega,rfl,b,e⟩);go_enter func85,ntmps85;go_wp2_with fail;apply n.o.mono;rintro r w1 ⟨rfl,b,e⟩;have i:=hide (s.o w1 b e);go_wp2_with fail;exact⟨rfl,i.o⟩
def V8 (X D f d g off cap z p fl left head check size:Nat)(s:aK)(B:aD)(parts t:aK)(nm:bY)(w:aH)(h:Ik w X D f d g off cap z p fl left head s check size B parts t nm)(e:Nat)(F:e=if(aG B p 16)=head%65536 then 0 else 12):Calls prog 86 #[E X] w (rO 16 p B f (.slice (bE g off B.length) B.length cap) z X D d fl left head s check size parts t nm true e (fun k=>k=f\/k=X) w):=by
 have J:w.cell? (U X 0)=some (E D):=aC h.gz 0 _ rfl;have K:w.cell? (U D 0)=some (E f):=aC h.dec 0 _ rfl;by_cases n:p+16<=8*B.length
 ·have I:=bO B p 16;have y:=hide (dO f g off cap z p 16 B w h.feed h.src h.gf (by omega) n);have u:=hide (show∀w',lV f w w' (p+16)->rP w' X D fl left head s check size/\rO 16 p B f (.slice (bE g off B.length) B.length cap) z X D d fl left head s check size parts t nm true e (fun k=>k=f\/k=X) w (.returned (.tuple #[.bool true,V e])) w' from fun w' j=>by
   have m:=j.step.at_ h.gz h.Xf;exact⟨m, .inl ⟨n,j.feed _ _ _ _ h.feed,rfl,m,j.step.at_ h.dec h.Df,j.step.mono (fun k x=> .inl x)⟩⟩)
  have hh:=h.hh;generalize aG B p 16=c at*;have L:c<65536:=I;go_enter func86,ntmps86;go_wp2_with fail;apply y.o.mono;rintro r w1 ⟨rfl,a⟩;obtain⟨m,A⟩:=u.o w1 a;have M:w1.cell? (U X 3)=some (.int .u32 (head:Nat)):=aC m 3 _ rfl;by_cases i:c=head%65536;focus
   have H:((c:Int)==IntKind.u16.wrap (head:Int))=true:=dI.2 (by rw[IntKind.wrap_u16];omega);have b:=hide (show e=0 by rw[F,aA i]);clear i;go_wp2_with fail;apply(gU true 12 _).mono
  rotate_left;focus
   have H:((c:Int)==IntKind.u16.wrap (head:Int))=false:=aX.2 (by rw[IntKind.wrap_u16];omega);have b:=hide (show e=12 by rw[F,aB i]);go_wp2_with fail;apply(gU false 12 _).mono
  all_goals
   rintro r w2 ⟨rfl,rfl⟩;go_wp2_with fail;go_ret2;have C:=A;rw[b.o]at C;rw[b.o];exact C
 ·have y:=hide (dL f g off cap z p 16 B w h.feed h.src h.gf (by omega) h.here (by omega));have G:=hide h.feed;have u:=hide (show∀w',bN w' f (.slice (bE g off B.length) B.length cap) (8*B.length) z->Step (·=f) w w'->rO 16 p B f (.slice (bE g off B.length) B.length cap) z X D d fl left head s check size parts t nm true e (fun k=>k=f\/k=X) w lost w' from fun w' j m=> .inr ⟨by omega,rfl,j,m⟩);go_enter func86,ntmps86;go_wp2_with fail;apply y.o.mono;rintro r w1 ⟨rfl,a⟩;have v:=hide (u.o w1 (a.feed _ _ _ _ G.o) a.step);go_wp2_with fail;exact⟨rfl,v.o⟩
def UC (X D f d g off cap z p fl left head check size:Nat)(s:aK)(B:aD)(parts t:aK)(nm:bY)(w:aH)(h:Ik w X D f d g off cap z p fl left head s check size B parts t nm)(e:Nat)(F:e=if(aG B p 32)=check then 0 else 12):Calls prog 88 #[E X] w (rO 32 p B f (.slice (bE g off B.length) B.length cap) z X D d fl left head s check size parts t nm true e (fun k=>k=f\/k=X) w):=by
 have J:w.cell? (U X 0)=some (E D):=aC h.gz 0 _ rfl;have K:w.cell? (U D 0)=some (E f):=aC h.dec 0 _ rfl;by_cases m:p+32<=8*B.length
 ·have I:=bO B p 32;have y:=hide (dO f g off cap z p 32 B w h.feed h.src h.gf (by omega) m);have u:=hide (show∀w',lV f w w' (p+32)->rP w' X D fl left head s check size/\rO 32 p B f (.slice (bE g off B.length) B.length cap) z X D d fl left head s check size parts t nm true e (fun k=>k=f\/k=X) w (.returned (.tuple #[.bool true,V e])) w' from fun w' i=>by
   have j:=i.step.at_ h.gz h.Xf;exact⟨j, .inl ⟨m,i.feed _ _ _ _ h.feed,rfl,j,i.step.at_ h.dec h.Df,i.step.mono (fun k x=> .inl x)⟩⟩)
  have hh:=h.hh;generalize aG B p 32=c at*;have L:c<4294967296:=I;go_enter func88,ntmps88;go_wp2_with fail;apply y.o.mono;rintro r w1 ⟨rfl,a⟩;obtain⟨j,A⟩:=u.o w1 a;have M:w1.cell? (U X 5)=some (.int .u32 (check:Nat)):=aC j 5 _ rfl;by_cases n:c=check;focus
   have H:((c:Int)==(check:Int))=true:=dI.2 (by omega);have b:=hide (show e=0 by rw[F,aA n]);go_wp2_with fail;apply(gU true 12 _).mono
  rotate_left;focus
   have H:((c:Int)==(check:Int))=false:=aX.2 (by omega);have b:=hide (show e=12 by rw[F,aB n]);go_wp2_with fail;apply(gU false 12 _).mono
  all_goals
   rintro r w2 ⟨rfl,rfl⟩;go_wp2_with fail;go_ret2;have C:=A;rw[b.o]at C;rw[b.o];exact C
 ·have y:=hide (dL f g off cap z p 32 B w h.feed h.src h.gf (by omega) h.here (by omega));have G:=hide h.feed;have u:=hide (show∀w',bN w' f (.slice (bE g off B.length) B.length cap) (8*B.length) z->Step (·=f) w w'->rO 32 p B f (.slice (bE g off B.length) B.length cap) z X D d fl left head s check size parts t nm true e (fun k=>k=f\/k=X) w lost w' from fun w' i j=> .inr ⟨by omega,rfl,i,j⟩);go_enter func88,ntmps88;go_wp2_with fail;apply y.o.mono;rintro r w1 ⟨rfl,a⟩;have v:=hide (u.o w1 (a.feed _ _ _ _ G.o) a.step);go_wp2_with fail;exact⟨rfl,v.o⟩
def VT (X D f d g off cap z p fl left head check size:Nat)(s:aK)(B:aD)(parts t:aK)(nm:bY)(w:aH)(h:Ik w X D f d g off cap z p fl left head s check size B parts t nm)(e:Nat)(F:e=if(aG B p 32)=size then 0 else 12):Calls prog 89 #[E X] w (rO 32 p B f (.slice (bE g off B.length) B.length cap) z X D d fl left head s check size parts t nm true e (fun k=>k=f\/k=X) w):=by
 have J:w.cell? (U X 0)=some (E D):=aC h.gz 0 _ rfl;have K:w.cell? (U D 0)=some (E f):=aC h.dec 0 _ rfl;by_cases m:p+32<=8*B.length
 ·have I:=bO B p 32;have y:=hide (dO f g off cap z p 32 B w h.feed h.src h.gf (by omega) m);have u:=hide (show∀w',lV f w w' (p+32)->rP w' X D fl left head s check size/\rO 32 p B f (.slice (bE g off B.length) B.length cap) z X D d fl left head s check size parts t nm true e (fun k=>k=f\/k=X) w (.returned (.tuple #[.bool true,V e])) w' from fun w' i=>by
   have j:=i.step.at_ h.gz h.Xf;exact⟨j, .inl ⟨m,i.feed _ _ _ _ h.feed,rfl,j,i.step.at_ h.dec h.Df,i.step.mono (fun k x=> .inl x)⟩⟩)
  have hh:=h.hh;generalize aG B p 32=c at*;have L:c<4294967296:=I;go_enter func89,ntmps89;go_wp2_with fail;apply y.o.mono;rintro r w1 ⟨rfl,a⟩;obtain⟨j,A⟩:=u.o w1 a;have M:w1.cell? (U X 6)=some (.int .u32 (size:Nat)):=aC j 6 _ rfl;by_cases n:c=size;focus
   have H:((c:Int)==(size:Int))=true:=dI.2 (by omega);have b:=hide (show e=0 by rw[F,aA n]);go_wp2_with fail;apply(gU true 12 _).mono
  rotate_left;focus
   have H:((c:Int)==(size:Int))=false:=aX.2 (by omega);have b:=hide (show e=12 by rw[F,aB n]);go_wp2_with fail;apply(gU false 12 _).mono
  all_goals
   rintro r w2 ⟨rfl,rfl⟩;go_wp2_with fail;go_ret2;have C:=A;rw[b.o]at C;rw[b.o];exact C
 ·have y:=hide (dL f g off cap z p 32 B w h.feed h.src h.gf (by omega) h.here (by omega));have G:=hide h.feed;have u:=hide (show∀w',bN w' f (.slice (bE g off B.length) B.length cap) (8*B.length) z->Step (·=f) w w'->rO 32 p B f (.slice (bE g off B.length) B.length cap) z X D d fl left head s check size parts t nm true e (fun k=>k=f\/k=X) w lost w' from fun w' i j=> .inr ⟨by omega,rfl,i,j⟩);go_enter func89,ntmps89;go_wp2_with fail;apply y.o.mono;rintro r w1 ⟨rfl,a⟩;have v:=hide (u.o w1 (a.feed _ _ _ _ G.o) a.step);go_wp2_with fail;exact⟨rfl,v.o⟩
def V3 (X D f d g off cap z p fl left head check size:Nat)(F:aK)(B:aD)(parts G:aK)(nm:bY)(w:aH)(h:Ik w X D f d g off cap z p fl left head F check size B parts G nm):Calls prog 83 #[E X] w (rO 16 p B f (.slice (bE g off B.length) B.length cap) z X D d fl (aG B p 16) (aL head [aG B p 16%256,aG B p 16/256]) F check size parts G nm true 0 (fun k=>k=f\/k=X) w):=by
 have Y:w.cell? (U X 0)=some (E D):=aC h.gz 0 _ rfl;have Z:w.cell? (U D 0)=some (E f):=aC h.dec 0 _ rfl;by_cases n:p+16<=8*B.length
 ·have S:=bO B p 16;have I:=hide (dO f g off cap z p 16 B w h.feed h.src h.gf (by omega) n);have hh:=h.hh;generalize aG B p 16=c at*;have hc:c<65536:=S;go_enter func83,ntmps83;go_wp2_with fail;apply I.o.mono;rintro r w1 ⟨rfl,b⟩;have t:=b.step.at_ h.gz h.Xf;have z1:w1.cell? (U X 3)=some (.int .u32 (head:Nat)):=aC t 3 _ rfl;have zf:w1.frozen? (U X 3)=false:=aJ t 3;go_wp2_with fail;obtain⟨w2,j⟩:=aP (w1.alloc (.cells #[.int .u8 ((c:Int)%256), .int .u8 ((c:Int)/256)] 5));have e:O w1 w2:=by rw[j];exact(aU _ _).alloc _
  have v:tZ w2 (.slice (some (U w1.heap.size 0)) 2 2) [c%256,c/256]:= .inr ⟨w1.heap.size,0,2,rfl,fun i hi=>by
   have m:w2.heap[w1.heap.size]? =some (.cells #[.int .u8 ((c:Int)%256), .int .u8 ((c:Int)/256)] 5 (0,0)):=(by rw[j];exact aR _ _);have J:i<2:=hi;match i,J with
   |0,_=>exact aC m 0 _ (by simp)
   |1,_=>exact aC m 1 _ (by simp)⟩
  rw[<-j];clear j;refine(tC head (.slice (some (U w1.heap.size 0)) 2 2) [c%256,c/256] w2 hh v (by intro y T;simp at T;omega) (by simp)).mono ?_;rintro r w3 ⟨rfl,rfl⟩;have a:=e.at_ t (fun x=>x);have y3:w3.cell? (U X 3)=some (.int .u32 (head:Nat)):=aC a 3 _ rfl;have yf:w3.frozen? (U X 3)=false:=aJ a 3;have y2:w3.cell? (U X 2)=some (V left):=aC a 2 _ rfl;have W:w3.frozen? (U X 2)=false:=aJ a 2;have Q:=aO a;have s:=hide (show∀u:Nat,u=aL head [c%256,c/256]->rO 16 p B f (.slice (bE g off B.length) B.length cap) z X D d fl c (aL head [c%256,c/256]) F check size parts G nm true 0 (fun k=>k=f\/k=X) w (.returned (.tuple #[.bool true,V ((0:Nat):Int)])) ((w3.setCell (U X 3) (.int .u32 (u:Nat))).setCell (U X 2) (V c)) from fun u R=>by
   subst R;have A:Step (·=X) w3 ((w3.setCell (U X 3) (.int .u32 (aL head [c%256,c/256]:Nat))).setCell (U X 2) (V c)):=((aU (·=X) w3).setCell (p:=(U X 3)) rfl _).setCell (p:=(U X 2)) rfl _;have C:Step (fun k=>k=f\/k=X) w ((w3.setCell (U X 3) (.int .u32 (aL head [c%256,c/256]:Nat))).setCell (U X 2) (V c)):=((b.step.mono (fun k x=> .inl x)).trans (e.mono (fun _ x=>x.elim))).trans (A.mono (fun k x=> .inr x));refine .inl ⟨n,A.at_ (e.at_ (b.feed _ _ _ _ h.feed) (fun x=>x)) (fun x=>h.Xf x.symm),rfl,?_,C.at_ h.dec (fun x=>x.elim h.Df h.DX),C⟩;have N:=aV a 3 (.int .u32 (aL head [c%256,c/256]:Nat));have P:=aV N 2 (V c);simpa using P)
  clear a e v n;go_wp2_with fail;go_ret2;exact s.o _ rfl
 ·have I:=hide (dL f g off cap z p 16 B w h.feed h.src h.gf (by omega) h.here (by omega));have K:=hide h.feed;have L:=hide (show∀w',bN w' f (.slice (bE g off B.length) B.length cap) (8*B.length) z->Step (·=f) w w'->rO 16 p B f (.slice (bE g off B.length) B.length cap) z X D d fl (aG B p 16) (aL head [aG B p 16%256,aG B p 16/256]) F check size parts G nm true 0 (fun k=>k=f\/k=X) w lost w' from fun w' M t=> .inr ⟨by omega,rfl,M,t⟩);go_enter func83,ntmps83;go_wp2_with fail;apply I.o.mono;rintro r w1 ⟨rfl,b⟩;have H:=hide (L.o w1 (b.feed _ _ _ _ K.o) b.step);go_wp2_with fail;exact⟨rfl,H.o⟩
def ag5 (a b c X D fl d left head check size:Nat)(g:aK)(w:aH)(e:rP w X D fl left head g check size)(i:w.cell? (U a 0)=some (E X))(j:w.cell? (U b 0)=some (V d))(k:bits .and .i64 (fl:Int) (d:Int)=0):Calls prog 123 #[E a,E b,E c] w fun r w'=>r= .returned (.tuple #[.bool true,V ((0:Nat):Int)])/\O w w':=by have c1:w.cell? (U X 1)=some (V fl):=aC e 1 _ rfl;clear e;go_enter func123,ntmps123;go_wp2_with fail;go_region;go_wp2_with fail;go_ret2;exact⟨rfl,(aU _ _).drew⟩
def Zm (a b c X D fl d left head check size g:Nat)(n:aK)(w:aH)(Q:Ending->aH->Prop)(k:rP w X D fl left head n check size)(o:w.cell? (U a 0)=some (E X))(s:w.cell? (U b 0)=some (V d))(t:w.cell? (U c 0)=some (.func (.func g) #[E X] #[]))(u:(bits .and .i64 (fl:Int) (d:Int)==0)=false)(m:∀w,(callFunc g #[E X]).run prog w= .ok (.enter g #[E X]) w)(j:∀w1,O w w1->Calls prog g #[E X] w1 fun r w'=>((∃(thr:Bool) (e:Nat),r= .returned (.tuple #[.bool thr,V e]))\/r=lost)/\Q r w'):Calls prog 123 #[E a,E b,E c] w Q:=by
 have c1:w.cell? (U X 1)=some (V fl):=aC k 1 _ rfl;go_enter func123,ntmps123;go_wp2_with fail;go_region;go_wp2_with fail;apply(j _ ((aU _ _).drew)).mono;rintro r w1 ⟨⟨thr,e,rfl⟩|rfl,i⟩
 ·go_wp2_with fail;exact i
 ·go_wp2_with fail;exact⟨rfl,i⟩
end Go.Proofs.YtbpahojchgpdnaaGreatDoor
