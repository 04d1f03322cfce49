import Derived.Test.YtbpahojchgpdnaaGreatDoorGzipB
set_option maxRecDepth 20000
set_option maxHeartbeats 4000000
set_option linter.all false
namespace Go.Proofs.YtbpahojchgpdnaaGreatDoor
open Go.RowKit Go.dM Go.Maps Go.Proofs.Tryz
variable {w w':aH} {X bl e fl most p used:Nat} {v:aK} {B name nm out:aD}
def info21:(prog.info? 21).map (fun i=>(i.zero,i.size,i.bytes))=some (some (.int .i32 0),1,4):=by kernel_rfl
def Ch (l:aD):List aK:=l.map fun c=> .int .i32 (c:Nat)
abbrev tQ (w:aH)(bl:Nat)(lv:aK)(ls:aD):Prop:=w.ownsRow bl 21 1 lv ls.length (Ch ls)
def XL {lv:aK}{ls:aD}(h:tQ w bl lv ls):∃a c,lv= .slice a ls.length c:=by
 obtain⟨_,⟨b,hn⟩|⟨g,cap,_,b,_⟩⟩:=h
 ·exact⟨none,0,by rw[b,hn]⟩
 ·exact⟨_,_,b⟩
def xM {h t:Nat}{ys:aD}{A:Array aK}(own:tQ w bl v ys)(blk:w.heap[h]? =some (.cells A t (0,0)))(c:t≠21):v.ownBlock≠some h:=fun x=>by
 obtain⟨_,⟨a,_⟩|⟨g,cap,b,a,_,hh,_⟩⟩:=own
 ·rw[a]at x;cases x
 ·rw[a]at x
  cases x
  rw[hh]at blk
  cases blk
  exact c rfl
def kH {S:Nat->Prop}{ys:aD}(h:tQ w bl v ys)(hs:Step S w w')(hn:∀k,v.ownBlock=some k->¬S k):tQ w' bl v ys:=bX h fun k hk=>hs.block k (h.lt k hk).2 (hn k hk)
def Cw (X D f d g off cap z p fl left head check size bl:Nat)(lv:aK)(ls:aD)(B:aD)(parts vo:aK)(nm:bY)(w:aH)(h:Ik w X D f d g off cap z p fl left head lv check size B parts vo nm)(n:tQ w bl lv ls)(ai:aG B p 8≠0)(hn:ls.length<=8388608)(ah:bl<=w.heap.size):Calls prog 84 #[E X] w (jY 8 p B f (.slice (bE g off B.length) B.length cap) z w fun r w'=>r= .returned (.tuple #[.bool false,V ((0:Nat):Int)])/\∃b,rP w' X D fl left (aL head [aG B p 8]) b check size/\tQ w' bl b (ls++[aG B p 8])/\(∀k,b.ownBlock=some k->lv.ownBlock=some k\/w.heap.size<=k)/\gQ w' D f d parts vo nm/\Step (fun k=>k=f\/k=X\/lv.ownBlock=some k) w w'):=by
 have hC:=h.byte;by_cases s:p+8<=8*B.length
 ·have R:=hide (hC.mono (fun r w' h=>h.ok s));have hx:=bO B p 8;generalize aG B p 8=c at*;have hc:c<256:=hx;have af:(c:Int)>0:=by omega
  obtain⟨la,lc,l⟩:=XL n;obtain⟨i0,hi,ac,ad,ae⟩:=eD info21;go_enter func84,ntmps84;go_wp2_with fail;apply R.o.mono;rintro r w1 ⟨I,rfl,m,N⟩;have Z:tQ w1 bl lv ls:=kH n N (fun k hk x=>by
   rcases x with x|x
   ·exact xM n h.feed (by decide) (by rw[hk,x])
   ·exact xM n h.gz (by decide) (by rw[hk,x]))
  have z4:w1.cell? (U X 4)=some lv:=aC m 4 _ rfl;have zf:w1.frozen? (U X 4)=false:=aJ m 4;have ag:=aO m;rw[l]at z4;go_wp2_with (at_builtin;refine fQ _ rfl _ _ 135 rfl bl 21 i0 (.int .i32 0) 1 4 underlying135 hi ac ad ae rfl (by decide) _ ls.length (Ch ls) rfl (by rw[<-l];exact Z.alloc _) (U w1.heap.size 0) 1 1 [.int .i32 (c:Nat)] rfl rfl ?c1 ?c2 (by decide) ?c3 ?c4 ?c5 ?_);case c1=>
   intro j u Q;match j,Q with
   |0,Q=>simp at Q;subst Q;exact jO (aR w1 (.cells #[.int .i32 (c:Nat)] 21))
  case c2=>intro u hu;simp at hu;subst hu;rfl
  case c3=>unfold maxLen;omega
  case c4=>omega
  case c5=>have:=N.size;simp;omega
  intro i a w2 t Y T;have J:O w1 (w1.alloc (.cells #[.int .i32 (c:Nat)] 21)):=(aU _ _).alloc _;have A:Step (fun k=>lv.ownBlock=some k) w1 w2:=(J.mono (fun _ x=>x.elim)).grown Y (fun k hk=> .inl (by rw[l];exact hk));have L:¬lv.ownBlock=some X:=xM n h.gz (by decide);have aa:¬lv.ownBlock=some D:=xM n h.dec (by decide);have ab:¬lv.ownBlock=some f:=xM n h.feed (by decide);have G:=A.at_ m L;have y4:w2.cell? (U X 4)=some lv:=aC G 4 _ rfl;have yf:w2.frozen? (U X 4)=false:=aJ G 4;have K:lv.ownBlock=some i\/w.heap.size<=i:=by
   rcases T with x|x
   ·exact .inl (by rw[l];exact x)
   ·refine .inr ?_;have h5:=N.size;have h6:=J.size;omega
  have W:(Value.slice (some (U i 0)) (ls.length+1) a).ownBlock≠some X:=fun x=>by
   have x':i=X:=(by simpa[Value.ownBlock]using x);rcases K with y|y
   ·exact L (by rw[y,x'])
   ·have:=aO h.gz;omega
  have H:=hide (show jY 8 p B f (.slice (bE g off B.length) B.length cap) z w (fun r w'=>r= .returned (.tuple #[.bool false,V ((0:Nat):Int)])/\∃b,rP w' X D fl left (aL head [c]) b check size/\tQ w' bl b (ls++[c])/\(∀k,b.ownBlock=some k->lv.ownBlock=some k\/w.heap.size<=k)/\gQ w' D f d parts vo nm/\Step (fun k=>k=f\/k=X\/lv.ownBlock=some k) w w') (.returned (.tuple #[.bool false,V ((0:Nat):Int)])) (w2.setCell (U X 4) (.slice (some (U i 0)) (ls.length+1) a)) from by
   have C:Step (·=X) w2 (w2.setCell (U X 4) (.slice (some (U i 0)) (ls.length+1) a)):=(aU (·=X) w2).setCell (p:=(U X 4)) rfl _;have M:Step (fun k=>k=f\/k=X\/lv.ownBlock=some k) w (w2.setCell (U X 4) (.slice (some (U i 0)) (ls.length+1) a)):=((N.mono (fun k x=>x.elim .inl (fun y=> .inr (.inl y)))).trans (A.mono (fun k x=> .inr (.inr x)))).trans (C.mono (fun k x=> .inr (.inl x)));refine .inl ⟨s,C.at_ (A.at_ I ab) (fun x=>h.Xf x.symm),rfl, .slice (some (U i 0)) (ls.length+1) a,?_,?_,fun k hk=> ?_,M.at_ h.dec (fun x=>by
    rcases x with x|x|x
    ·exact h.Df x
    ·exact h.DX x
    ·exact aa x),M⟩
   ·have h9:=aV G 4 (.slice (some (U i 0)) (ls.length+1) a);simpa using h9
   ·have h8:w2.ownsRow bl 21 1 (.slice (some (U i 0)) (ls.length+1) a) (ls++[c]).length (Ch (ls++[c])):=by
     have e1:Ch (ls++[c])=Ch ls++[.int .i32 (c:Nat)]:=(by simp[Ch]);rw[e1,aN];exact t
    exact kH h8 C (fun k hk x=>W (by rw[hk,x]))
   ·have x':i=k:=(by simpa[Value.ownBlock]using hk);rw[<-x'];exact K)
  rw[l]at y4;go_wp2_with fail;go_ret2;exact H.o
 ·have R:=hide (hC.mono (fun r w' h=>h.lost s));have HG:=hide (show∀w',bN w' f (.slice (bE g off B.length) B.length cap) (8*B.length) z->Step (·=f) w w'->jY 8 p B f (.slice (bE g off B.length) B.length cap) z w (fun r w'=>r= .returned (.tuple #[.bool false,V ((0:Nat):Int)])/\∃b,rP w' X D fl left (aL head [aG B p 8]) b check size/\tQ w' bl b (ls++[aG B p 8])/\(∀k,b.ownBlock=some k->lv.ownBlock=some k\/w.heap.size<=k)/\gQ w' D f d parts vo nm/\Step (fun k=>k=f\/k=X\/lv.ownBlock=some k) w w') lost w' from fun w' I m=> .inr ⟨by omega,rfl,I,m⟩);go_enter func84,ntmps84;go_wp2_with fail;apply R.o.mono;rintro r w1 ⟨rfl,I,m⟩;have S:=hide (HG.o w1 I m);go_wp2_with fail;exact⟨rfl,S.o⟩
def Vl (c:Nat)(h:c<256):Utf8.encode (c:Int)=eP (uG c):=by
 have b:Utf8.valid (c:Int)=true:=by simp[Utf8.valid];omega
 unfold Utf8.encode uG;simp only[b,if_true,Int.toNat_natCast];by_cases a:c<128
 ·rw[aA a,aA a];rfl
 ·rw[aB a,aB a,aA (by omega)];rfl
def Ev (ls:aD)(h:∀c∈ls,c<256):runesBytes (ls.map fun c:Nat=>(c:Int))=eP (gY ls):=by
 have key:∀(l:aD) (r:bY),(∀c∈l,c<256)->(l.map fun c:Nat=>(c:Int)).foldl (fun r n=>r++Utf8.encode n) r=r++eP (gY l):=by
  intro l;induction l with
  |nil=>intro r _;apply IU;simp[gY,eP]
  |cons c l ih=>
   intro r a;have i:=a c (by simp);rw[uI,List.foldl_cons,ih _ (fun x j=>a x (by simp[j])),Vl c i];apply IU;simp[gY,eP,ByteArray.append_assoc]
 have b:=key ls ByteArray.empty h;unfold runesBytes;rw[b];apply IU;simp
def Iw (X D f d g off cap z p fl left head check size bl:Nat)(lv:aK)(ls:aD)(B:aD)(parts vo:aK)(nm:bY)(w:aH)(h:Ik w X D f d g off cap z p fl left head lv check size B parts vo nm)(I:tQ w bl lv ls)(G:aG B p 8=0)(R:iR ls):Calls prog 84 #[E X] w (rO 8 p B f (.slice (bE g off B.length) B.length cap) z X D d fl left (aL head [aG B p 8]) (.slice none 0 0) check size parts vo (eP (gY ls)) true 0 (fun k=>k=f\/k=X\/k=D) w):=by
 have hC:=h.byte;by_cases t:p+8<=8*B.length
 ·have H:=hide (hC.mono (fun r w' h=>h.ok t));rw[G]at H;obtain⟨la,lc,S⟩:=XL I;go_enter func84,ntmps84;go_wp2_with fail;apply H.o.mono;rintro r w1 ⟨C,rfl,b,K⟩;have a:tQ w1 bl lv ls:=kH I K (fun k hk x=>by
   rcases x with x|x
   ·exact xM I h.feed (by decide) (by rw[hk,x])
   ·exact xM I h.gz (by decide) (by rw[hk,x]))
  have s:∀n,(convert 135 9 lv).run prog (w1.drewN n)= .ok (.string (eP (gY ls))) (w1.drewN n):=fun n=>by
   have a:tQ (w1.drewN n) bl lv ls:=kH a ((aU (fun _=>False) w1).drewN n) (fun _ _ x=>x);revert a;generalize w1.drewN n=w1;intro a;rw[<-Ev ls R];have Q:=a;obtain⟨_,⟨W,hn⟩|⟨k,m,ac,W,_⟩⟩:=a
   ·rw[W,kP hn];exact run_convert_runes_nil w1 135 9 21 0 0 underlying135 underlying21 underlying9
   ·subst W;have u:=run_convert_runes (P:=prog) w1 135 9 21 (U k 0) ls.length m (ls.map fun c:Nat=>(c:Int)) (by simp) underlying135 underlying21 underlying9 (fun j hj=>by
     have N:j<ls.length:=(by simpa using hj);have h8:w1.ownsRow bl 21 1 (.slice (some (U k 0)) ls.length m) ls.length (Ch ls):=Q;have h7:=h8.cellAt j (by omega);rw[show((U k 0):Addr).add j=(U k j) from by
      unfold Addr.add;split
      ·rename_i h;simp_all
      ·simp]
     rw[h7];simp[Ch,List.getD,kE,bV N])
    rw[kW (by simp)]at u;exact u
  have z4:w1.cell? (U X 4)=some lv:=aC b 4 _ rfl;have zf:w1.frozen? (U X 4)=false:=aJ b 4;have z0:w1.cell? (U X 0)=some (E D):=aC b 0 _ rfl;have i:=K.at_ h.dec (fun x=>x.elim h.Df h.DX);have zn:w1.cell? (U D 4)=some (.string nm):=aC i 4 _ rfl;have af:w1.frozen? (U D 4)=false:=aJ i 4;rw[S]at z4 s;have n1:¬D=X:=h.DX;have n2:¬X=D:=fun x=>n1 x.symm;have ae:=aO b;have ad:=aO i;have ab:(convert 135 9 (.slice la ls.length lc)).run prog w1.drew= .ok (.string (eP (gY ls))) w1.drew:=s 1;have aa:(convert 135 9 (.slice la ls.length lc)).run prog w1= .ok (.string (eP (gY ls))) w1:=s 0;go_wp2_with fail;have A:=hide (show∀w5 w6,w5=w1.drew.setCell (U D 4) (.string (eP (gY ls)))->w6=w5.setCell (U X 4) (.slice none 0 0)->rO 8 p B f (.slice (bE g off B.length) B.length cap) z X D d fl left (aL head [aG B p 8]) (.slice none 0 0) check size parts vo (eP (gY ls)) true 0 (fun k=>k=f\/k=X\/k=D) w (.returned (.tuple #[.bool true,V ((0:Nat):Int)])) w6 from fun w5 w6 e5 e6=>by
   have l:O w1 w1.drew:=(aU _ _).drew;have Y:Step (·=D) w1.drew w5:=(by rw[e5];exact(aU (·=D) _).setCell (p:=(U D 4)) rfl _);have Z:Step (·=X) w5 w6:=(by rw[e6];exact(aU (·=X) _).setCell (p:=(U X 4)) rfl _);have T:Step (fun k=>k=f\/k=X\/k=D) w w6:=(((K.mono (fun k x=>x.elim .inl (fun y=> .inr (.inl y)))).trans (l.mono (fun _ x=>x.elim))).trans (Y.mono (fun k x=> .inr (.inr x)))).trans (Z.mono (fun k x=> .inr (.inl x)));have L:gQ w5 D f d parts vo (eP (gY ls)):=by
    have u:=aV (l.at_ i (fun x=>x)) 4 (.string (eP (gY ls)));rw[e5];simpa using u
   have M:=Y.at_ (l.at_ b (fun x=>x)) n2;refine .inl ⟨t,Z.at_ (Y.at_ (l.at_ C (fun x=>x)) (fun x=>h.Df x.symm)) (fun x=>h.Xf x.symm),rfl,?_,Z.at_ L n1,T⟩;have u:=aV M 4 (.slice none 0 0);rw[e6,G];simpa using u)
  go_region;go_wp2_with fail;go_ret2;exact A.o _ _ rfl rfl
 ·have H:=hide (hC.mono (fun r w' h=>h.lost t));have HG:=hide (show∀w',bN w' f (.slice (bE g off B.length) B.length cap) (8*B.length) z->Step (·=f) w w'->rO 8 p B f (.slice (bE g off B.length) B.length cap) z X D d fl left (aL head [aG B p 8]) (.slice none 0 0) check size parts vo (eP (gY ls)) true 0 (fun k=>k=f\/k=X\/k=D) w lost w' from fun w' C b=> .inr ⟨by omega,rfl,C,b⟩);go_enter func84,ntmps84;go_wp2_with fail;apply H.o.mono;rintro r w1 ⟨rfl,C,b⟩;have J:=hide (HG.o w1 C b);go_wp2_with fail;exact⟨rfl,J.o⟩
structure GQ where
 i:Nat
 p:Nat
 fl:Nat
 left:Nat
 head:Nat
 check:Nat
 size:Nat
 ls:aD
 o:aD
 nm:aD
def GS' (f X D:Nat)(lv:aK)(k:Nat):Prop:=k=f\/k=X\/k=D\/lv.ownBlock=some k
def IsMark (w0:aH)(X m:Nat)(v:aK):Prop:=∃a b,v= .func (.func 121) #[] #[E a,E b]/\(X<a/\a<w0.heap.size)/\(X<b/\b<w0.heap.size)/\w0.cell? (U a 0)=some (E X)/\w0.cell? (U b 0)=some (V (m:Nat))
def qY (w0:aH)(X flag id:Nat)(v:aK):Prop:=∃a b c,v= .func (.func 123) #[] #[E a,E b,E c]/\(X<a/\a<w0.heap.size)/\(X<b/\b<w0.heap.size)/\(X<c/\c<w0.heap.size)/\w0.cell? (U a 0)=some (E X)/\w0.cell? (U b 0)=some (V (flag:Nat))/\w0.cell? (U c 0)=some (.func (.func id) #[E X] #[])
def JF (X id:Nat)(v:aK):Prop:=v= .func (.func id) #[E X] #[]
structure kV (w0:aH)(X:Nat)(F:Nat->aK):Prop where
 m0:IsMark w0 X 31 (F 0)
 m1:IsMark w0 X 139 (F 1)
 m2:IsMark w0 X 8 (F 2)
 p3:JF X 80 (F 3)
 p4:JF X 81 (F 4)
 w5:qY w0 X 4 83 (F 5)
 w6:qY w0 X 4 81 (F 6)
 w7:qY w0 X 8 84 (F 7)
 w8:qY w0 X 16 85 (F 8)
 w9:qY w0 X 2 86 (F 9)
 p10:JF X 87 (F 10)
 p11:JF X 88 (F 11)
 p12:JF X 89 (F 12)
def aq8 (args:Array aK)(w:aH):(callFunc 121 args).run prog w= .ok (.enter 121 args) w:=by kernel_rfl
def pU (args:Array aK)(w:aH):(callFunc 123 args).run prog w= .ok (.enter 123 args) w:=by kernel_rfl
def ab3 (args:Array aK)(w:aH):(callFunc 80 args).run prog w= .ok (.enter 80 args) w:=by kernel_rfl
def OW (args:Array aK)(w:aH):(callFunc 81 args).run prog w= .ok (.enter 81 args) w:=by kernel_rfl
def ae2 (args:Array aK)(w:aH):(callFunc 83 args).run prog w= .ok (.enter 83 args) w:=by kernel_rfl
def WI (args:Array aK)(w:aH):(callFunc 84 args).run prog w= .ok (.enter 84 args) w:=by kernel_rfl
def Vd (args:Array aK)(w:aH):(callFunc 85 args).run prog w= .ok (.enter 85 args) w:=by kernel_rfl
def YI (args:Array aK)(w:aH):(callFunc 86 args).run prog w= .ok (.enter 86 args) w:=by kernel_rfl
def a01 (args:Array aK)(w:aH):(callFunc 87 args).run prog w= .ok (.enter 87 args) w:=by kernel_rfl
def ad2 (args:Array aK)(w:aH):(callFunc 88 args).run prog w= .ok (.enter 88 args) w:=by kernel_rfl
def aj3 (args:Array aK)(w:aH):(callFunc 89 args).run prog w= .ok (.enter 89 args) w:=by kernel_rfl
variable {w0 w:aH} {base0 g off cap f d D X P:Nat} {B:aD} {most:Nat} {F:Nat->aK} {q:GQ} {lv vo:aK}
structure GV (B:aD)(q:GQ):Prop where
 al:q.i<=9->q.p%8=0/\q.head=aL 0 (B.take (q.p/8))
 fl:4<=q.i->q.fl<32
 lf:q.left<65536
 ls:q.i≠7->q.ls=[]
 lb:iR q.ls
 ll:8*q.ls.length<=q.p
 nm:q.i<=7->q.nm=[]
 l6:q.i<=3->q.left=6
 l7:¬q.fl/8%2=1->q.ls=[]
def nS (B:aD)(most:Nat)(q:GQ)(e:Nat)(out:aD)(used:Nat)(name:aD):Prop:=
 match q.i with
 |0=>q.p=0/\xA B most e out used name
 |1=>q.p=8/\gz1 B most e out used name
 |2=>q.p=16/\gz2 B most e out used name
 |3=>q.p=24/\jU B most 24 e out used name
 |4=>qA B most q.fl q.p q.left e out used name
 |5=>kT B most q.fl q.p e out used name
 |6=>nV B most q.fl q.p q.left e out used name
 |7=>jW B most q.fl q.p q.ls e out used name
 |8=>gX B most q.fl q.p q.nm e out used name
 |9=>jG B most q.fl q.p q.nm e out used name
 |10=>rY B most q.p q.nm e out used name
 |11=>q.check=aL 0 q.o/\q.size=q.o.length/\q.p%8=0/\pF B q.p q.o q.nm e out used name
 |12=>q.size=q.o.length/\q.p%8=0/\BZ B q.p q.o q.nm e out used name
 |_=>e=0/\q.p=8*used/\q.o=out/\name=q.nm
variable {w0 w:aH} {base0 g off cap f d D X P:Nat} {B:aD} {most:Nat} {F:Nat->aK} {q:GQ} {lv vo:aK} {e:Nat} {out:aD} {used:Nat} {name:aD}
variable {w0 w:aH} {base0 g off cap f d D X P:Nat} {B:aD} {most:Nat} {F:Nat->aK} {q:GQ} {lv vo:aK} {e:Nat} {out:aD} {used:Nat} {name:aD}
def AQ {a k:Nat}(h:a&&&k=a/k%2*k)(hk:0<k)(b:k<4611686018427387904)(c:a<32)(hs:a/k%2=1):(bits .and .i64 (a:Int) (k:Int)==0)=false:=by rw[OU a k (by omega) b,h,hs,aX];omega
def AL {a k:Nat}(h:a&&&k=a/k%2*k)(b:k<4611686018427387904)(c:a<32)(hs:¬a/k%2=1):bits .and .i64 (a:Int) (k:Int)=0:=by rw[OU a k (by omega) b,h,show a/k%2=0 by omega,Nat.zero_mul];rfl
def GV.byte (b:GV B q)(m:iR B)(hi:q.i<=9)(l:4<=q.i)(k:q.p+8<=8*B.length)(c a:Nat)(n:c=q.i\/c=q.i+1)(o:a<65536)(j:q.i≠7):GV B { q with i:=c,p:=q.p+8,left:=a,head:=aL q.head [aG B q.p 8] }:=by obtain⟨a1,a2⟩:=b.al hi;refine⟨fun _=>⟨by show(q.p+8)%8=0;omega,?_⟩,fun _=>b.fl l,o,fun _=>b.ls j,b.lb,by show 8*q.ls.length<=q.p+8;have:=b.ll;omega,fun y=>b.nm (by have y:c<=7:=y;omega),fun y=>by have y:c<=3:=y;omega,fun _=>b.ls j⟩;show aL q.head [aG B q.p 8]=aL 0 (B.take ((q.p+8)/8));rw[a2];exact xR B q.p m a1 k
def GV.skip (c:GV B q)(hi:q.i<=9)(j:4<=q.i)(a:Nat)(k:a<65536)(b:q.ls=[]):GV B { q with i:=q.i+1,left:=a }:=⟨fun _=>c.al hi,fun _=>c.fl j,k,fun _=>b,c.lb,c.ll,fun y=>c.nm (by have y:q.i+1<=7:=y;omega),fun y=>by have y:q.i+1<=3:=y;omega,fun _=>b⟩
def GV.behind (a:GV B q)(k:8<=q.i)(c b:Nat)(j:10<=b):GV B { q with i:=b,p:=q.p+c }:=⟨fun y=>by have y:b<=9:=y;omega,fun _=>a.fl (by omega),a.lf,fun _=>a.ls (by omega),a.lb,by show 8*q.ls.length<=q.p+c;have:=a.ll;omega,fun y=>by have y:b<=7:=y;omega,fun y=>by have y:b<=3:=y;omega,fun _=>a.ls (by omega)⟩
def IsMark.step0 {m:Nat}(h:IsMark w X m v)(hs:O w w'):IsMark w' X m v:=by obtain⟨a,b,c,i,j,k,l⟩:=h;have n:=hs.size;exact⟨a,b,c,⟨i.1,by omega⟩,⟨j.1,by omega⟩,hs.cell k (fun x=>x),hs.cell l (fun x=>x)⟩
def qY.step0 {i j:Nat}(h:qY w X i j v)(hs:O w w'):qY w' X i j v:=by obtain⟨a,b,c,k,l,m,n,o,r,s⟩:=h;have t:=hs.size;exact⟨a,b,c,k,⟨l.1,by omega⟩,⟨m.1,by omega⟩,⟨n.1,by omega⟩,hs.cell o (fun x=>x),hs.cell r (fun x=>x),hs.cell s (fun x=>x)⟩
def kV.far {F:Nat->aK}{S:Nat->Prop}(h:kV w X F)(hs:Step S w w')(n:∀k,X<k->¬S k):kV w' X F:=by
 have z:=hs.size;have r:∀m v,IsMark w X m v->IsMark w' X m v:=fun m v ⟨a,b,s,j,l,o,t⟩=>⟨a,b,s,⟨j.1,by omega⟩,⟨l.1,by omega⟩,hs.cell (p:=(U a 0)) o (n a j.1),hs.cell (p:=(U b 0)) t (n b l.1)⟩
 have i:∀fl u v,qY w X fl u v->qY w' X fl u v:=fun fl u v ⟨a,b,c,s,j,l,o,t,x,y⟩=>⟨a,b,c,s,⟨j.1,by omega⟩,⟨l.1,by omega⟩,⟨o.1,by omega⟩,hs.cell (p:=(U a 0)) t (n a j.1),hs.cell (p:=(U b 0)) x (n b l.1),hs.cell (p:=(U c 0)) y (n c o.1)⟩
 exact⟨r _ _ h.m0,r _ _ h.m1,r _ _ h.m2,h.p3,h.p4,i _ _ _ h.w5,i _ _ _ h.w6,i _ _ _ h.w7,i _ _ _ h.w8,i _ _ _ h.w9,h.p10,h.p11,h.p12⟩
def xB (a b:Nat):aK:= .func (.func 121) #[] #[E a,E b]
def oW (a b c:Nat):aK:= .func (.func 123) #[] #[E a,E b,E c]
def lQ (X id:Nat):aK:= .func (.func id) #[E X] #[]
def QB (X m:Nat)(w:aH)(t:X<w.heap.size):Calls prog 79 #[E X,V m] w fun r w'=>∃a b,r= .returned (.func (.func 121) #[] #[E a,E b])/\O w w'/\IsMark w' X m (xB a b):=by
 have u:=ar9;have c:=hide (show∀(k l:TypeId) (o1 o2:Obj),o1= .cells #[E X] k (0,0)->o2= .cells #[V m] l (0,0)->O w ((w.alloc o1).alloc o2)/\IsMark ((w.alloc o1).alloc o2) X m (xB w.heap.size (w.heap.size+1)) from fun k l o1 o2 n s=>by
  have i:(w.alloc o1).heap.size=w.heap.size+1:=by simp
  have y:O w (w.alloc o1):=(aU _ _).alloc _;have j:O (w.alloc o1) ((w.alloc o1).alloc o2):=(aU _ _).alloc _;have b1:=aR w o1;have b2:=aR (w.alloc o1) o2;rw[i]at b2;refine⟨y.trans j,w.heap.size,w.heap.size+1,rfl,⟨t,by simp;omega⟩,⟨by omega,by simp⟩,j.cell ?_ (fun x=>x),?_⟩
  ·subst n;exact aC b1 0 _ rfl
  ·subst s;exact aC b2 0 _ rfl)
 go_enter func79,ntmps79;go_wp2_with fail;go_ret;exact⟨_,_,rfl,c.o _ _ _ _ rfl rfl⟩
def C8 (X i l:Nat)(w:aH)(H:X<w.heap.size):Calls prog 82 #[E X,V i, .func (.func l) #[E X] #[]] w fun r w'=>∃a b c,r= .returned (.func (.func 123) #[] #[E a,E b,E c])/\O w w'/\qY w' X i l (oW a b c):=by
 have I:=ar9;have k:=hide (show∀(y z A:TypeId) (o1 o2 j:Obj),o1= .cells #[E X] y (0,0)->o2= .cells #[V i] z (0,0)->j= .cells #[.func (.func l) #[E X] #[]] A (0,0)->O w (((w.alloc o1).alloc o2).alloc j)/\qY (((w.alloc o1).alloc o2).alloc j) X i l (oW w.heap.size (w.heap.size+1) (w.heap.size+1+1)) from fun y z A o1 o2 j C G e3=>by
  have n:(w.alloc o1).heap.size=w.heap.size+1:=by simp
  have s:((w.alloc o1).alloc o2).heap.size=w.heap.size+1+1:=by simp
  have J:O w (w.alloc o1):=(aU _ _).alloc _;have u:O (w.alloc o1) ((w.alloc o1).alloc o2):=(aU _ _).alloc _;have m:O ((w.alloc o1).alloc o2) (((w.alloc o1).alloc o2).alloc j):=(aU _ _).alloc _;have b1:=aR w o1;have b2:=aR (w.alloc o1) o2;have t:=aR ((w.alloc o1).alloc o2) j;rw[n]at b2;rw[s]at t;have K:=m.size;refine⟨(J.trans u).trans m,w.heap.size,w.heap.size+1,w.heap.size+1+1,rfl,⟨H,by simp;omega⟩,⟨by omega,by simp⟩,⟨by omega,by simp⟩,(u.trans m).cell ?_ (fun x=>x),m.cell ?_ (fun x=>x),?_⟩
  ·subst C;exact aC b1 0 _ rfl
  ·subst G;exact aC b2 0 _ rfl
  ·subst e3;exact aC t 0 _ rfl)
 go_enter func82,ntmps82;go_wp2_with fail;go_ret;exact⟨_,_,_,rfl,k.o _ _ _ _ _ _ rfl rfl rfl⟩
def Y0 (D:Nat)(w:aH):Calls prog 52 #[E D] w fun r w'=>∃(P:Nat) (F:Nat->aK),r= .returned (.slice (some (U P 0)) 13 13)/\O w w'/\w.heap.size<P/\w'.heap.size=P+1/\rP w' w.heap.size D 0 6 0 (.slice none 0 0) 0 0/\kV w' w.heap.size F/\∀j,j<13->w'.cell? (U P j)=some (F j):=by
 have aw:=ar9;go_enter func52,ntmps52;go_wp2_with fail;obtain⟨X,c⟩:=aP w.heap.size;obtain⟨w0,a⟩:=aP (w.alloc (.cells #[E D,V 0,V 6, .int .u32 0, .slice none 0 0, .int .u32 0, .int .u32 0] 137));have au:w0.heap.size=X+1:=by rw[a,c];simp
 have ar:O w w0:=by rw[a];exact(aU _ _).alloc _
 have aj:rP w0 X D 0 6 0 (.slice none 0 0) 0 0:=by rw[a,c];exact aR _ _
 have ab:X<w0.heap.size:=by omega
 have aa:=hide c;rw[<-a,<-c];clear a c au;apply(QB X 31 w0 ab).mono;rintro r w1 ⟨a1,b1,rfl,b,k⟩;have ac:X<w1.heap.size:=by have:=b.size;omega
 have Y:=hide k;have Z:=hide b;clear b k;go_wp2_with fail;apply(QB X 139 w1 ac).mono;rintro r w2 ⟨a2,b2,rfl,l,ak⟩;have ad:X<w2.heap.size:=by have:=l.size;omega
 go_wp2_with fail;apply(QB X 8 w2 ad).mono;rintro r w3 ⟨z,J,rfl,m,al⟩;have ae:X<w3.heap.size:=by have:=m.size;omega
 go_wp2_with fail;apply(C8 X 4 83 w3 ae).mono;rintro r w4 ⟨A,K,c4,rfl,n,am⟩;have af:X<w4.heap.size:=by have:=n.size;omega
 go_wp2_with fail;apply(C8 X 4 81 w4 af).mono;rintro r w5 ⟨C,L,R,rfl,s,an⟩;have ag:X<w5.heap.size:=by have:=s.size;omega
 go_wp2_with fail;apply(C8 X 8 84 w5 ag).mono;rintro r w6 ⟨G,M,S,rfl,t,ao⟩;have ah:X<w6.heap.size:=by have:=t.size;omega
 go_wp2_with fail;apply(C8 X 16 85 w6 ah).mono;rintro r w7 ⟨H,N,T,rfl,u,ap⟩;have ai:X<w7.heap.size:=by have:=u.size;omega
 go_wp2_with fail;apply(C8 X 2 86 w7 ai).mono;rintro r w8 ⟨I,Q,W,rfl,y,aq⟩;have av:X<w8.heap.size:=by have:=y.size;omega
 go_wp2_with fail;go_ret;have i:=aa.o;have t8:O w8 (w8.alloc (.cells #[xB a1 b1,xB a2 b2,xB z J,lQ X 80,lQ X 81,oW A K c4,oW C L R,oW G M S,oW H N T,oW I Q W,lQ X 87,lQ X 88,lQ X 89] 138)):=(aU _ _).alloc _;have t7:=y.trans t8;have t6:=u.trans t7;have t5:=t.trans t6;have t4:=s.trans t5;have t3:=n.trans t4;have t2:=m.trans t3;have t1:=l.trans t2;have t0:=Z.o.trans t1;have hP:(w8.alloc (.cells #[xB a1 b1,xB a2 b2,xB z J,lQ X 80,lQ X 81,oW A K c4,oW C L R,oW G M S,oW H N T,oW I Q W,lQ X 87,lQ X 88,lQ X 89] 138)).heap[w8.heap.size]? =some (.cells #[xB a1 b1,xB a2 b2,xB z J,lQ X 80,lQ X 81,oW A K c4,oW C L R,oW G M S,oW H N T,oW I Q W,lQ X 87,lQ X 88,lQ X 89] 138 (0,0)):=aR _ _;refine⟨w8.heap.size,fun j=>#[xB a1 b1,xB a2 b2,xB z J,lQ X 80,lQ X 81,oW A K c4,oW C L R,oW G M S,oW H N T,oW I Q W,lQ X 87,lQ X 88,lQ X 89].getD j (.bool false),rfl,ar.trans t0,by omega,by simp,by rw[<-i];exact t0.at_ aj (fun x=>x),?_,fun j hj=> ?_⟩
 ·rw[<-i];exact⟨Y.o.step0 t1,ak.step0 t2,al.step0 t3,rfl,rfl,am.step0 t4,an.step0 t5,ao.step0 t6,ap.step0 t7,aq.step0 t8,rfl,rfl,rfl⟩
 ·match j,hj with
  |0,_=>exact aC hP 0 _ rfl
  |1,_=>exact aC hP 1 _ rfl
  |2,_=>exact aC hP 2 _ rfl
  |3,_=>exact aC hP 3 _ rfl
  |4,_=>exact aC hP 4 _ rfl
  |5,_=>exact aC hP 5 _ rfl
  |6,_=>exact aC hP 6 _ rfl
  |7,_=>exact aC hP 7 _ rfl
  |8,_=>exact aC hP 8 _ rfl
  |9,_=>exact aC hP 9 _ rfl
  |10,_=>exact aC hP 10 _ rfl
  |11,_=>exact aC hP 11 _ rfl
  |12,_=>exact aC hP 12 _ rfl
def Zo (f most:Nat)(w:aH):Calls prog 36 #[V 2,E f,V most] w fun e w'=>e= .returned (.tuple #[.pointer (some ⟨w.heap.size+1,0,none⟩),V 0])/\∃P F,ap7 w w' f most 13 (.cells #[.pointer (some ⟨w.heap.size+1,0,none⟩),V 0,V 6, .int .u32 0, .slice none 0 0, .int .u32 0, .int .u32 0] 137 (0,0)) F P/\kV w' (w.heap.size+2) F:=by
 go_enter func36,ntmps36;go_wp2_with fail;apply(O6 f most _).mono;rintro e w1 ⟨rfl,b⟩;obtain⟨d,u⟩:=aP w.heap.size;have t:w1.heap.size=d+1:=by rw[b,u];simp
 have G:O w w1:=by rw[b];exact(aU _ _).alloc _
 have C:w1.heap[d]? =some (AO f most):=by rw[b,u];exact aR _ _
 have L:d<=w.heap.size:=by omega
 have K:w.heap.size<=d:=by omega
 rw[<-u];clear b u;go_wp2_with fail;obtain⟨w2,c⟩:=aP (w1.alloc (.cells #[E f,E d, .slice none 0 0, .slice none 0 0, .string ⟨#[]⟩] 96));have H:w2.heap.size=d+1+1:=by rw[c];simp[t]
 have s:O w1 w2:=by rw[c];exact(aU _ _).alloc _
 have y:gQ w2 (d+1) f d (.slice none 0 0) (.slice none 0 0) ⟨#[]⟩:=by rw[c,<-t];exact aR _ _
 rw[<-c];apply(Y0 (d+1) w2).mono;rintro e w3 ⟨P,F,rfl,l,A,I,r,n,z⟩;rw[H]at r n A;have i:=l.at_ y (fun x=>x);have k2:w3.cell? ⟨d+1,2,none⟩=some (.slice none 0 0):=aC i 2 _ rfl;have N:w3.frozen? ⟨d+1,2,none⟩=false:=aJ i 2;have m:=hide (show ap7 w (w3.setCell ⟨d+1,2,none⟩ (.slice (some (U P 0)) 13 13)) f most 13 (.cells #[.pointer (some ⟨d+1,0,none⟩),V 0,V 6, .int .u32 0, .slice none 0 0, .int .u32 0, .int .u32 0] 137 (0,0)) F P/\kV (w3.setCell ⟨d+1,2,none⟩ (.slice (some (U P 0)) 13 13)) (d+2) F from by
  obtain rfl:d=w.heap.size:=by omega
  have a:Step (·=w.heap.size+1) w3 (w3.setCell ⟨w.heap.size+1,2,none⟩ (.slice (some (U P 0)) 13 13)):=(aU (·=w.heap.size+1) w3).setCell (p:=⟨w.heap.size+1,2,none⟩) rfl _;refine⟨⟨((G.trans s).trans l).trans' a (fun k hk x=>by omega),by simp[I],by omega,a.at_ ((s.trans l).at_ C (fun x=>x)) (by omega),?_,a.at_ r (by omega),fun j M=>a.cell (z j M) (by show¬(P=w.heap.size+1);omega)⟩,n.far a (fun k hk=>by show¬(k=w.heap.size+1);omega)⟩;have J:=aV i 2 (.slice (some (U P 0)) 13 13);simp at J;exact J)
 go_wp2_with fail;go_ret2;obtain rfl:d=w.heap.size:=by omega
 exact⟨rfl,P,F,m.o⟩
def zP (B:aD)(most e:Nat)(out:aD)(used:Nat):Prop:=(e≠0->used=0)/\used<=B.length/\out.length<=most
def lT {x:Nat}(h:qI x nm e out used name):zP B most e out used:=⟨fun _=>h.2.2.1,by rw[h.2.2.1];exact iZ _,by rw[h.2.1];exact iZ _⟩
def ML (h:rY B most p nm e out used name):zP B most e out used:=by
 obtain⟨n,r,o1,c,s,a⟩:=h;have b:=(OP s).2.2;by_cases j:r=0
 ·rw[aA j]at a;unfold pF at a;by_cases k:c+32<=8*B.length
  ·rw[aA k]at a;by_cases l:aG B c 32=aL 0 o1
   ·rw[aA l]at a;obtain⟨i,_,a⟩:=a;rw[<-i]at b;by_cases m:c+32+32<=8*B.length
    ·rw[aA m]at a;by_cases o:aG B (c+32) 32=o1.length
     ·rw[aA o]at a;exact⟨fun x=>absurd a.1 x,by rw[a.2];omega,b⟩
     ·rw[aB o]at a;exact⟨fun _=>a.2,by rw[a.2];exact iZ _,b⟩
    ·rw[aB m]at a;exact⟨fun _=>a.2,by rw[a.2];exact iZ _,b⟩
   ·rw[aB l]at a;exact⟨fun _=>a.2.2.1,by rw[a.2.2.1];exact iZ _,by rw[a.2.1];exact b⟩
  ·rw[aB k]at a;exact⟨fun _=>a.2.2.1,by rw[a.2.2.1];exact iZ _,by rw[a.2.1];exact b⟩
 ·rw[aB j]at a;exact⟨fun _=>a.2.2.1,by rw[a.2.2.1];exact iZ _,by rw[a.2.1];exact b⟩
def GL (h:jG B most fl p nm e out used name):zP B most e out used:=by
 unfold jG at h;split at h
 ·split at h
  ·split at h
   ·exact ML h
   ·exact lT h
  ·exact lT h
 ·exact ML h
def EM (h:gX B most fl p nm e out used name):zP B most e out used:=by
 unfold gX at h;split at h
 ·obtain⟨l,ok,q,_,h⟩:=h;split at h
  ·exact GL h
  ·exact lT h
 ·exact GL h
def BI {a:aD}(h:jW B most fl p a e out used name):zP B most e out used:=by
 unfold jW at h;split at h
 ·obtain⟨l,ok,q,_,h⟩:=h;split at h
  ·exact EM h
  ·exact lT h
 ·exact EM h
def Ca {left:Nat}(h:nV B most fl p left e out used name):zP B most e out used:=by
 unfold nV at h;split at h
 ·split at h
  ·exact BI h
  ·exact lT h
 ·exact BI h
def BR {m:Nat}{K:Nat->aD->Nat->aD->Prop}(h:mO B m p K e out used name)(a:K e out used name->zP B most e out used):zP B most e out used:=by
 unfold mO at h;split at h
 ·split at h
  ·exact a h
  ·exact lT h
 ·exact lT h
def U7 (h:xA B most e out used name):zP B most e out used:=by
 refine BR h (fun h=>BR h (fun h=>BR h (fun h=> ?_)));unfold jU at h;split at h
 ·split at h
  ·unfold qA at h;split at h
   ·unfold kT at h;split at h
    ·split at h
     ·exact Ca h
     ·exact lT h
    ·exact BI h
   ·exact lT h
  ·exact lT h
 ·exact lT h
def XA (kind:Int)(f most:Nat)(w:aH)(c:¬kind=0)(i:¬kind=1)(j:¬kind=2):Calls prog 36 #[V kind,E f,V most] w fun e w'=>e= .returned (.tuple #[.pointer none,V 1])/\O w w':=by
 have b0:(kind==0)=false:=aX.2 c;have b1:(kind==1)=false:=aX.2 i;have b2:(kind==2)=false:=aX.2 j;go_enter func36,ntmps36;go_wp2_with fail;apply(O6 f most _).mono;rintro e w1 ⟨rfl,a⟩;have b:O w w1:=by rw[a];exact(aU _ _).alloc _
 clear a c i j;go_wp2_with fail;go_ret2;exact⟨rfl,b.alloc _⟩
def af5 (kind:Int)(s:aK)(most:Int)(w:aH)(hs:∃a n c,s= .slice a n c)(H:¬kind=0)(I:¬kind=1)(J:¬kind=2):Calls prog 25 #[V kind,s,V most] w fun r w'=>r= .returned (.agg #[V ((1:Nat):Int), .slice none 0 0,V ((0:Nat):Int), .string ⟨#[]⟩])/\O w w':=by
 have j:=hide (fun f w3=>XA kind f (asked most) w3 H I J);go_enter func25,ntmps25;go_wp2_with fail;obtain⟨R,A⟩:=aP w.heap.size;obtain⟨w1,i⟩:=aP (w.alloc (.cells #[V 0, .slice none 0 0,V 0, .string ⟨#[]⟩] 45));have y:O w w1:=by rw[i];exact(aU _ _).alloc _
 have M:w1.heap.size=R+1:=by rw[i,A];simp
 have u:w1.heap[R]? =some (.cells #[V 0, .slice none 0 0,V 0, .string ⟨#[]⟩] 45 (0,0)):=by rw[i,A];exact aR _ _
 have K:w.heap.size<=R:=by omega
 rw[<-i,<-A];clear i A;apply(wS s w1 hs).mono;rintro W w2 ⟨rfl,z⟩;have l:O w1 w2:=by rw[z];exact(aU _ _).alloc _
 clear z;go_wp2_with fail;apply(Ac most w2).mono;rintro G w3 ⟨rfl,rfl⟩;go_wp2_with fail;apply(j.o _ w3).mono;rintro G w4 ⟨rfl,m⟩;have b:=(l.trans m).at_ u (fun x=>x);have N:w4.cell? (U R 0)=some (V 0):=aC b 0 _ rfl;have Q:w4.cell? (U R 1)=some (.slice none 0 0):=aC b 1 _ rfl;have S:w4.cell? (U R 2)=some (V 0):=aC b 2 _ rfl;have T:w4.cell? (U R 3)=some (.string ⟨#[]⟩):=aC b 3 _ rfl;have Y:=aJ b 0;have Z:=aJ b 1;have g2:=aJ b 2;have g3:=aJ b 3;have L:=aO b;have C:=hide ((y.trans l).trans m);clear y l m u b j;go_wp2_with fail
 have t:Step (·=R) w4 ((((w4.setCell (U R 0) (V 1)).setCell (U R 1) (.slice none 0 0)).setCell (U R 2) (V 0)).setCell (U R 3) (.string ⟨#[]⟩)):=
  ((((aU (·=R) w4).setCell (p:=(U R 0)) rfl _).setCell (p:=(U R 1)) rfl _).setCell (p:=(U R 2)) rfl _).setCell (p:=(U R 3)) rfl _
 refine aY (v:= .agg #[V 1, .slice none 0 0,V 0, .string ⟨#[]⟩]) (by simp[results,results25,go_sem,N,Q,S,T]) rfl ⟨rfl,?_⟩;exact C.o.trans' t (fun k hk x=>by omega)
end Go.Proofs.YtbpahojchgpdnaaGreatDoor
