import Derived.Test.YtbpahojchgpdnaaGreatDoorPacksA
import Derived.Test.YtbpahojchgpdnaaGreatDoorLawR
set_option maxRecDepth 20000
set_option maxHeartbeats 4000000
set_option linter.all false
namespace Go.Proofs.YtbpahojchgpdnaaGreatDoor
open Go.RowKit Go.dM Go.Proofs.Tryz
variable {i wb:Nat} {w:aH}
def Rj (wb:Nat)(nn wrap way most:Int)(b:bY)(ps v:aK)(hs:List Hd)(F:Nat->Prop)(w:aH)(K:xZ w 4 wb ps v hs F)(s:bL w)(n:4<=w.heap.size)(j:4<=wb)(q:b.size<=1048576)(p:hs.length<=24000000000):Calls prog 32 #[E wb,PG 5 nn wrap way b most] w fun r w'=>r= .returned (.bool true)/\∃c a,xZ w' 4 wb ps c a (KG w F w')/\(hs.length<a.length/\a.length<=hs.length+12)/\bL w'/\(∀k,c.ownBlock=some k->v.ownBlock=some k\/w.heap.size<=k)/\Step (fun k=>k=wb\/v.ownBlock=some k) w w':=by
 have d:O w (w.alloc (.cells #[V 5,V nn,V wrap,V way, .string b,V most] 25)):=(aU _ _).alloc _;have l:=hide (Uy wb 5 nn wrap way most b ps v hs F _ (K.step0 d) (s.step d (fun _ _ x=>x)) (bB n d.size) j q p);unfold PG at l|-
 go_enter func32,ntmps32;go_wp2_with fail;apply l.o.mono;rintro r w2 ⟨rfl,c,a,K',f,g,e,st⟩
 have m:=hide (show∃c a,xZ w2 4 wb ps c a (KG w F w2)/\(hs.length<a.length/\a.length<=hs.length+12)/\bL w2/\(∀k,c.ownBlock=some k->v.ownBlock=some k\/w.heap.size<=k)/\Step (fun k=>k=wb\/v.ownBlock=some k) w w2 from
  ⟨c,a,K'.kg (fun k x=>by
   have t:=d.size;rcases x.1 with⟨y,_⟩|y
   ·by_cases hk:k<w.heap.size
    ·exact .inl ⟨y,hk⟩
    ·exact .inr (by omega)
   ·exact .inr (by omega)),f,g,fun k hk=>(e k hk).imp id (fun x=>bB d.size x),(d.mono (fun _ x=>x.elim)).trans st⟩)
 go_wp2_with fail;go_ret;exact⟨rfl,m.o⟩
variable {n0:Nat} {F:Nat->Prop} {w:aH} {wb:Nat} {ps v:aK} {hs:List Hd} {pls:List Pl} {tot:Nat}
structure WZ (n0 wb:Nat)(w w':aH)(hs:List Hd)(tot':Nat):Prop where
 ex:∃ps' v' hs' pls' F',LS n0 F' w' wb ps' v' hs' pls'/\(∀p∈pls',p.ok/\p.sx.size<=tot')/\hs'.length<=hs.length+12/\Step (fun j=>n0<=j) w w'
abbrev I6 (n0 wb:Nat)(w:aH)(hs:List Hd)(tot':Nat)(o:aK):Prop:=Calls prog 32 #[E wb,o] w fun r w'=>r= .returned (.bool true)/\WZ n0 wb w w' hs tot'
def LS.stay (h:LS n0 F w wb ps v hs pls)(hp:∀p∈pls,p.ok/\p.sx.size<=tot){tot':Nat}(b:tot<=tot'){w':aH}(st:O w w'):WZ n0 wb w w' hs tot':=⟨ps,v,hs,pls,F,h.step0 st,fun p a=>⟨(hp p a).1,bB (hp p a).2 b⟩,by omega,st.mono (fun _ x=>x.elim)⟩
def step1 (h:LS n0 F w wb ps v hs pls)(hp:∀p∈pls,p.ok/\p.sx.size<=tot)(nn wrap way most:Int)(b:bY)(a:b.size<=1048576)(m:hs.length<=24000000000):I6 n0 wb w hs (tot+b.size) (PG 1 nn wrap way b most):=by
 apply(Dh wb nn wrap way most b ps v hs F w h.k h.order h.w0 h.w4 (by omega) (Og wrap b most a) (by omega)).mono;rintro r w' ⟨rfl,l,d,K',g,_,c,st⟩;refine⟨rfl,ps,l,d,pls,_,h.kept (vb:= .slice none 0 0) K' (fun b a x=> ?_) c st (fun j e=> ?_) (fun b a=>by simp[Value.ownBlock]at a) (fun b a=>by simp[Value.ownBlock]at a),fun p f=>⟨(hp p f).1,by have:=(hp p f).2;omega⟩,by omega,st.mono (fun j e=> ?_)⟩
 ·rcases a.1 with⟨y,_⟩|y
  ·exact h.au8 b y x
  ·have:=(h.lt x).2;omega
 ·rcases e with y|y
  ·exact .inl y
  ·exact .inr (.inl y)
 ·rcases e with y|y
  ·rw[y];exact h.low.1
  ·exact h.low.2.1 j y
def Nn:bytesOf ⟨#[]⟩=[]:=rfl
def ax9:(prog.info? 85).map (fun i=>(i.zero,i.size,i.bytes))=some (some (.pointer none),1,8):=by kernel_rfl
def Tp (h:LS n0 F w wb ps v hs pls)(hp:∀p∈pls,p.ok/\p.sx.size<=tot)(t:pls.length<4){w1 r w5:aH}(st:O w w1){k Rb:Nat}{most:Int}{Own:Nat->Prop}(hk:k<=2)(D:Rd k (asked most) w1 Rb [] [] 3 0 [] Own)(y:∀j,Own j->w.heap.size<=j)(o:O w1 r)(z:r.heap[w1.heap.size]? =some (.cells (Fb w1.heap.size Rb k most Own).cells 87 (0,0))){g cap:Nat}(f:w5.ownsRow 4 85 1 (.slice (some (U g 0)) (pls.length+1) cap) (pls.length+1) (pls.map BN++[(E w1.heap.size)]))(d:r.grownBy w5 ps.ownBlock)(G:ps.ownBlock=some g\/r.heap.size<=g){tot':Nat}(I:tot<=tot'):w5.heap[wb]? =some (.cells #[ps,v] 70 (0,0))/\WZ n0 wb w (w5.setCell (U wb 0) (.slice (some (U g 0)) (pls.length+1) cap)) hs tot':=by
 have A:=h.step0 (st.trans o);have L:=st.size;have M:=o.size;have J:=h.Wx;have c:Step (fun j=>ps.ownBlock=some j) r w5:=⟨d.os,d.tape,d.output,d.size,fun j K hn=>d.block j K (fun e=>hn e.symm)⟩
 have q:w5.heap[wb]? =some (.cells #[ps,v] 70 (0,0)):=c.at_ A.k.blk (fun x=>gM A.k.blk A.row (by decide) x);refine⟨q,?_⟩;have m:Step (fun j=>j=wb\/ps.ownBlock=some j) w1 (w5.setCell (U wb 0) (.slice (some (U g 0)) (pls.length+1) cap)):=((o.mono (fun _ x=>x.elim)).trans (c.mono (fun j x=> .inr x))).setCell (p:=(U wb 0)) (.inl rfl) _;have l:¬(w1.heap.size=wb\/ps.ownBlock=some w1.heap.size):=fun x=>by
  rcases x with x|x
  ·omega
  ·have:=(h.row.lt _ x).2;omega
 have u:(w5.setCell (U wb 0) (.slice (some (U g 0)) (pls.length+1) cap)).heap[w1.heap.size]? =some (.cells (Fb w1.heap.size Rb k most Own).cells 87 (0,0)):=((aU (·=wb) w5).setCell (p:=(U wb 0)) rfl _).at_ (c.at_ z (fun x=>l (.inr x))) (fun x=>l (.inl x));have s:=aV q 0 (.slice (some (U g 0)) (pls.length+1) cap);have H:=h.ltF;have B:=H.joined (fun b x=>x.2) t st hk D y (aS _) u (mI f (a:=(U wb 0)) (gM q f (by decide)) _) (fun b C=> ?_) (by simpa using s) m
 ·refine⟨_,v,hs,_,_,B,fun p n=> ?_,by omega,(st.mono (fun _ x=>x.elim)).trans (m.mono (fun j x=> ?_))⟩
  ·rcases iF.1 n with n|n
   ·exact⟨(hp p n).1,bB (hp p n).2 I⟩
   ·rw[qB]at n;rw[n];exact⟨⟨Nn,rfl⟩,iZ _⟩
  ·rcases x with x|x
   ·rw[x];exact h.low.1
   ·exact h.low.2.2.1 j x
 ·simp only[Value.ownBlock,fH]at C;rw[<-C];exact G.imp id (fun x=>by omega)
def ac8 (h:LS n0 F w wb ps v hs pls)(hp:∀p∈pls,p.ok/\p.sx.size<=tot)(nn wrap way most:Int)(b:bY)(e:wrap<0\/2<wrap):I6 n0 wb w hs (tot+b.size) (PG 2 nn wrap way b most):=by
 have m:=hide (fun W=>Y7 wrap most W (by omega) (by omega) (by omega));have f:=hide (fun W g=>h.stay hp (tot':=tot+b.size) (by omega) (w':=W) g);unfold PG;rcases e with e|e;rotate_left;focus
  have j:¬wrap<0:=by omega
 all_goals
  go_enter func32,ntmps32;go_wp2_with fail;apply(m.o _).mono;rintro r w1 ⟨rfl,c⟩;have a:=((aU (fun _=>False) w).alloc (.cells #[V 2,V nn,V wrap,V way, .string b,V most] 25))
  have d:=c.at_ (aR w (.cells #[V 2,V nn,V wrap,V way, .string b,V most] 25)) (fun x=>x);have k:=aO d;have c2:w1.cell? (U w.heap.size 2)=some (V wrap):=aC d 2 _ rfl;have l:=hide (f.o w1 (a.trans c));go_wp2_with fail;go_ret;exact⟨rfl,l.o⟩
def a96 (h:LS n0 F w wb ps v hs pls)(hp:∀p∈pls,p.ok/\p.sx.size<=tot)(nn:Int)(k:Nat)(way most:Int)(b:bY)(hk:k<=2):I6 n0 wb w hs (tot+b.size) (PG 2 nn (k:Nat) way b most):=by
  obtain⟨i0,hi,N,L,Q⟩:=eD ax9;have S:=hide (fun W (I:O w W)=>ZO k most W hk (h.order.step I (fun _ _ x=>x)) (bB h.w0 I.size));obtain⟨G,C,K⟩:=mJ h.row;have ag:=h.Wx;have aa:=h.few;have HF:=hide (fun W I=>h.stay hp (tot':=tot+b.size) (by omega) (w':=W) I);have HH:=hide h;have HP:=hide hp;have q:=hide K;have kl:¬((k:Int)<0):=by omega
  have kg:¬((2:Int)<(k:Int)):=by omega
  clear hp;unfold PG;go_enter func32,ntmps32;go_wp2_with fail;have n:=((aU (fun _=>False) w).alloc (.cells #[V 2,V nn,V k,V way, .string b,V most] 25))
  apply(S.o _ n).mono;rintro r w1 ⟨Rb,Own,rfl,y,f,s⟩;have e:=s.at_ (aR w (.cells #[V 2,V nn,V k,V way, .string b,V most] 25)) (fun x=>x);have ad:=aO e;have c2:w1.cell? (U w.heap.size 2)=some (V k):=aC e 2 _ rfl;have T:w1.cell? (U w.heap.size 5)=some (V most):=aC e 5 _ rfl;have a:=n.trans s;have d:=a.at_ h.k.blk (fun x=>x);have k0:w1.cell? (U wb 0)=some (.slice G pls.length C):=by rw[<-q.o];exact aC d 0 _ rfl
  have f0:=aJ d 0;have R:=aO d;by_cases h4:pls.length<4
  . have J:((pls.length:Nat):Int)<4:=by omega
    have t:=hide (aQ a (aQ y f))
    have c:=eX h.row a (fun _ _ x=>x)
    rw[q.o]at c
    have A:=hide c
    have af:=hide d
    have ab:4<=w1.heap.size:=bB h.w0 a.size
    have Z:¬wb=w.heap.size:=by omega
    clear S s n y f a d e h c HF
    have HJ:=hide (show∀(B w5:aH) (g cap:Nat),O w1 B->B.heap[w1.heap.size]? =some (.cells #[E Rb,V k,V most, .string ⟨#[]⟩,V 0] 87 (0,0))->w5.ownsRow 4 85 1 (.slice (some (U g 0)) (pls.length+1) cap) (pls.length+1) (pls.map BN++[(E w1.heap.size)])->B.grownBy w5 (Value.slice G pls.length C).ownBlock->((Value.slice G pls.length C).ownBlock=some g\/B.heap.size<=g)->w5.heap[wb]? =some (.cells #[.slice G pls.length C,v] 70 (0,0))/\WZ n0 wb w (w5.setCell (U wb 0) (.slice (some (U g 0)) (pls.length+1) cap)) hs (tot+b.size) from fun B w5 g cap a1 a2 a3 X a5=>by
      rw[<-q.o]at X a5|-
      exact Tp HH.o HP.o h4 t.o.1 hk t.o.2.1 (fun j hj=>by have:=t.o.2.2 j hj;simp at this;omega) a1 a2 a3 X a5 (by omega))
    go_upto_region 9 with fail
    go_region_law (first
      | (refine AB rfl (.tmp 49) (.tmp 57) 67 rfl 4 85 i0 _ 1 8 underlying67 hi N L Q rfl (by decide) (.slice G pls.length C) pls.length (pls.map BN) (by simp [Act.eval]) (by exact (A.o.alloc _).alloc _) ⟨w1.heap.size + 1, 0, none⟩ 1 1 [(E w1.heap.size)] (by simp [Act.eval]) rfl ?c1 ?c2 (by decide) ?c3 ?c4 ?T ?_
         case c1=>
           intro j u m;match j,m with
           |0,m=>simp at m;subst m;simp[Addr.add]
         case c2=>
           intro u m;simp at m;subst m;rfl
         case c3=>unfold maxLen;omega
         case c4=>omega
         case T=>simp;omega
         intro g' D w5 l z H
         obtain⟨P,Y⟩:=HJ.o _ w5 g' D (((aU (fun _=>False) w1).drew.alloc _).alloc _) (by exact((aU (fun _=>False) (w1.drew.alloc _)).alloc _).at_ (k:=w1.heap.size) (aR w1.drew _) (fun x=>x)) l z H
         have ae:=aC P 0 _ rfl
         have ac:=aJ P 0
         have M:=hide Y
         clear l z H P Y))
    all_goals
      go_wp2_with fail;go_ret;exact⟨rfl,M.o⟩
  . have J:¬((pls.length:Nat):Int)<4:=by omega
    have HE:=hide (HF.o w1 a)
    go_wp2_with fail
    go_ret
    exact⟨rfl,HE.o⟩
variable {n0:Nat} {F:Nat->Prop} {w:aH} {wb:Nat} {ps v:aK} {hs:List Hd} {pls:List Pl} {tot:Nat}
def LS.pick (h:LS n0 F w wb ps v hs pls)(j:0<pls.length)(i:Nat)(hi:i<pls.length):∃g d l1 p l2,ps= .slice (some (U g 0)) pls.length d/\pls=l1++p::l2/\w.cell? (U g i)=some (E p.pb):=by
 obtain⟨p,hp⟩:∃p,pls[i]? =some p:=⟨_,bV hi⟩
 obtain⟨l1,l2,e⟩:=List.append_of_mem (nZ hp);have a:=h.row;obtain⟨_,⟨_,k⟩|⟨g,cap,f,b,_⟩⟩:=a
 ·omega
 ·refine⟨g,cap,l1,p,l2,b,e,?_⟩;have c:=h.row;rw[b]at c;rw[c.cellAt i (by omega),kE,hp];rfl
def Da (kind:Int)(c:kind=3\/kind=4)(h:LS n0 F w wb ps v hs pls)(hp:∀p∈pls,p.ok/\p.sx.size<=tot)(d:pls.length=0)(nn wrap way most:Int)(b:bY):I6 n0 wb w hs (tot+b.size) (PG kind nn wrap way b most):=by
 obtain⟨f,j,a⟩:=mJ h.row;rw[d]at a;have m:w.cell? (U wb 0)=some (.slice f 0 j):=by rw[<-a];exact aC h.k.blk 0 _ rfl
 have l:=h.Wx;have e:=hide (fun W g=>h.stay hp (tot':=tot+b.size) (by omega) (w':=W) g);have n:(kind==1)=false:=aX.2 (by omega);have q:(kind==2)=false:=aX.2 (by omega);have r:(kind==5)=false:=aX.2 (by omega);clear h hp a d c;unfold PG;go_enter func32,ntmps32;go_wp2_with fail;go_ret;exact⟨rfl,e.o _ ((aU _ _).alloc _)⟩
def Jh (h:LS n0 F w wb ps v hs pls)(hp:∀p∈pls,p.ok/\p.sx.size<=tot)(q:0<pls.length)(nn wrap way most:Int)(b:bY)(j: -9223372036854775808<=nn/\nn<=9223372036854775807)(Z:tot+b.size<=1048576)(N:hs.length<=24000000000):I6 n0 wb w hs (tot+b.size) (PG 3 nn wrap way b most):=by
 have m:=h.few;obtain⟨i,hi,a⟩:=Er nn pls.length j.1 j.2 q (by omega);obtain⟨g,J,l1,p,l2,f,c,e⟩:=h.pick q i hi;have l:=((aU (fun _=>False) w).alloc (.cells #[V 3,V nn,V wrap,V way, .string b,V most] 25))
 have D:w.cell? (U wb 0)=some (.slice (some (U g 0)) pls.length J):=by rw[<-f];exact aC h.k.blk 0 _ rfl
 have T:=h.Wx;have z:=kF w _ e;dsimp only at z;have d:p∈pls:=by rw[c];exact dR
 have A:=l.size;have u:=hide (show∀W,O w W->Calls prog 46 #[E wb,E p.pb, .string b] W fun r w'=>r= .returned (.bool true)/\WZ n0 wb w w' hs (tot+b.size) from fun W B=>by
  have C:=h.step0 B;rw[c]at C;refine(Kw C (hp p d).1 b (by have:=(hp p d).2;omega) N).mono ?_;rintro r w' ⟨rfl,P,t,Q,S,a1,a2,a3,Y,X⟩;refine⟨rfl,ps,P,t,l1++Q::l2,S,a1,fun x s=> ?_,by omega,(B.mono (fun _ x=>x.elim)).trans X⟩;rcases kG s with rfl|s
  ·exact⟨a2,by have:=(hp p d).2;omega⟩
  ·have:=hp x (by rw[c];exact fU s);exact⟨this.1,by omega⟩)
 obtain⟨n,hn⟩:=aP pls.length;rw[<-hn]at D a;have G:((n:Int)==0)=false:=aX.2 (by omega);have H:(i:Int)<(n:Int):=by omega
 have M:(0:Int)<=(i:Int):=by omega
 have y:=hide a;have K:¬g=w.heap.size:=by omega
 have R:¬wb=w.heap.size:=by omega
 clear h hp q f c d a hn hi A l m;unfold PG;go_enter func32,ntmps32;go_wp2_with fail;go_quiet (first|(go_at_call 45;exact P9 (y.o _)));go_wp2_with fail;apply(u.o _ (((aU (fun _=>False) w).alloc _).drewN _)).mono;rintro r w3 ⟨rfl,I⟩;have L:=hide I;go_wp2_with fail;go_ret;exact⟨rfl,L.o⟩
def Mv (h:LS n0 F w wb ps v hs pls)(hp:∀p∈pls,p.ok/\p.sx.size<=tot)(q:0<pls.length)(nn wrap way most:Int)(b:bY)(j: -9223372036854775808<=nn/\nn<=9223372036854775807)(N:tot+b.size<=1048576):I6 n0 wb w hs (tot+b.size) (PG 4 nn wrap way b most):=by
 have m:=h.few;obtain⟨i,hi,a⟩:=Er nn pls.length j.1 j.2 q (by omega);obtain⟨g,H,l1,p,l2,f,c,e⟩:=h.pick q i hi;have l:=((aU (fun _=>False) w).alloc (.cells #[V 4,V nn,V wrap,V way, .string b,V most] 25))
 have B:w.cell? (U wb 0)=some (.slice (some (U g 0)) pls.length H):=by rw[<-f];exact aC h.k.blk 0 _ rfl
 have M:=h.Wx;have x:=kF w _ e;dsimp only at x;have d:p∈pls:=by rw[c];exact dR
 have y:=l.size;have s:=hide (show∀W,O w W->Calls prog 47 #[E p.pb] W fun r w'=>r= .returned (.bool true)/\WZ n0 wb w w' hs (tot+b.size) from fun W z=>by
  have A:=h.step0 z;rw[c]at A;refine(a09 A (hp p d).1 (by have:=(hp p d).2;omega)).mono ?_;rintro r w' ⟨rfl,t⟩;exact⟨rfl,h.stay hp (by omega) (z.trans t)⟩)
 obtain⟨n,hn⟩:=aP pls.length;rw[<-hn]at B a;have C:((n:Int)==0)=false:=aX.2 (by omega);have D:(i:Int)<(n:Int):=by omega
 have K:(0:Int)<=(i:Int):=by omega
 have u:=hide a;have I:¬g=w.heap.size:=by omega
 have L:¬wb=w.heap.size:=by omega
 clear h hp q f c d a hn hi y l m;unfold PG;go_enter func32,ntmps32;go_wp2_with fail;go_quiet (first|(go_at_call 45;exact P9 (u.o _)));go_wp2_with fail;apply(s.o _ (((aU (fun _=>False) w).alloc _).drewN _)).mono;rintro r w3 ⟨rfl,G⟩;have J:=hide G;go_wp2_with fail;go_ret;exact⟨rfl,J.o⟩
def ay1 (h:LS n0 F w wb ps v hs pls)(hp:∀p∈pls,p.ok/\p.sx.size<=tot)(kind nn wrap way most:Int)(b:bY)(hk:1<=kind/\kind<=4)(a: -9223372036854775808<=nn/\nn<=9223372036854775807)(e:tot+b.size<=1048576)(d:hs.length<=24000000000):I6 n0 wb w hs (tot+b.size) (PG kind nn wrap way b most):=by
 have c:kind=1\/kind=2\/kind=3\/kind=4:=by omega
 rcases c with rfl|rfl|c
 ·exact step1 h hp nn wrap way most b (by omega) d
 ·by_cases g:wrap<0\/2<wrap
  ·exact ac8 h hp nn wrap way most b g
  ·obtain⟨k,rfl⟩:∃k:Nat,wrap=(k:Int):=⟨wrap.toNat,by omega⟩
   exact a96 h hp nn k way most b (by omega)
 ·by_cases f:pls.length=0
  ·exact Da kind c h hp f nn wrap way most b
  ·rcases c with rfl|rfl
   ·exact Jh h hp (by omega) nn wrap way most b a e d
   ·exact Mv h hp (by omega) nn wrap way most b a e
def vM (ops:List CP)(i:Nat):Nat:=((ops.take i).map (·.s.size)).sum
def UF {a:List CP}{o:CP}(h:a[i]? =some o):vM a (i+1)=vM a i+o.s.size:=by unfold vM;rw[jE,h];simp
def QT (a:List CP)(i d:Nat):vM a i<=vM a (i+d):=by
 induction d with
 |zero=>exact aS _
 |succ d ih=>
  refine bB ih ?_;cases h:a[i+d]? with
  |none=>
   have:vM a (i+d+1)=vM a (i+d):=(by unfold vM;rw[jE,h];simp);rw[<-iV,this];exact aS _
  |some r=>rw[<-iV,UF h];omega
structure UpS (ops:List CP)(w wr:aH)(wb i:Nat):Prop where
 ex:∃ps v hs pls F tot,LS w.heap.size F wr wb ps v hs pls/\(∀p∈pls,p.ok/\p.sx.size<=tot)/\tot<=vM ops i/\hs.length<=12*i
 step:O w wr
def UpS.step0 {c:List CP}{wr w2:aH}(I:UpS c w wr wb i)(h:O wr w2):UpS c w w2 wb i:=by obtain⟨ps,v,hs,pls,F,tot,a,b⟩:=I.ex;exact⟨⟨ps,v,hs,pls,F,tot,a.step0 h,b⟩,I.step.trans h⟩
def UpS.skip {e:List CP}{wr:aH}(I:UpS e w wr wb i):UpS e w wr wb (i+1):=by obtain⟨ps,v,hs,pls,F,tot,a,b,c,d⟩:=I.ex;have:=QT e i 1;exact⟨⟨ps,v,hs,pls,F,tot,a,b,by omega,by omega⟩,I.step⟩
def Uz (wb:Nat)(a:Option Addr)(c:Nat)(w:aH)(h:w.cell? (U wb 1)=some (.slice a 0 c)):Calls prog 33 #[E wb] w fun r w'=>r= .returned (.bool true)/\O w w':=by
 go_enter func33,ntmps33;go_wp2_with fail;go_loopg [3] 1 (fun k i wr=>i=V 0/\wr=w);case atStart=>exact⟨rfl,rfl⟩
 case round=>
  obtain⟨rfl,rfl⟩:=hrel;go_wp2_with fail;go_ret;exact⟨rfl,aU _ _⟩
def Vp {ps v:aK}{hs:List Hd}{F:Nat->Prop}(K:xZ w 4 wb ps v hs F)(f:hs.length<=281474976710656):Calls prog 33 #[E wb] w fun r w'=>r= .returned (.bool true)/\O w w':=by
 have own:=K.own;have d:=K.blk;obtain⟨_,⟨a,l⟩|⟨g,cap,e,a,_⟩⟩:=own
 ·subst a;exact Uz wb none 0 w (aC d 1 _ rfl)
 ·have own:=K.own;subst a;refine Zu wb g hs.length cap w ⟨aC d 1 _ rfl,fun j k=> ?_,f⟩;obtain⟨q,b⟩:∃q,hs[j]? =some q:=⟨_,bV k⟩
  have c:=own.cellAt j (by omega);rw[kE,b]at c;exact⟨q.hp,q.v,q.n,q.m,c,(K.each q (nZ b)).1.hold⟩
def OE (la:Int)(ops:List CP):Prop:=∀o∈ops,1<=o.kind->o.kind<=la->∀(n0:Nat) (F:Nat->Prop) (w:aH) (wb:Nat) (ps v:aK) (hs:List Hd) (pls:List Pl) (tot:Nat),LS n0 F w wb ps v hs pls->(∀p∈pls,p.ok/\p.sx.size<=tot)->tot+o.s.size<=1048576->hs.length<=24000000000->I6 n0 wb w hs (tot+o.s.size) (PG o.kind o.nn o.wrap o.way o.s o.most)
def Hq (y:Int)(g off cap:Nat)(e:List CP)(w:aH)(T:yB w g off e)(hA:OE y e)(ht:vM e e.length<=1048576)(hO:bL w)(W:4<=w.heap.size)(hl:e.length<=1000000000):Calls prog 15 #[.slice (some (U g off)) e.length cap,V 1,V y] w fun r w'=>r= .returned (V (-1))/\O w w':=by
 have H:O w (w.alloc (.cells #[.slice none 0 0, .slice none 0 0] 70)):=(aU _ _).alloc _
 have I0:UpS e w (w.alloc (.cells #[.slice none 0 0, .slice none 0 0] 70)) w.heap.size 0:=
  ⟨⟨.slice none 0 0, .slice none 0 0,[],[],fun _=>False,0,⟨⟨aR _ _,jJ _ _ _ _,fun q S=>(by cases S)⟩,fun _ x=>x.elim,jJ _ _ _ _,fun p hp=>(by cases hp),fun p hp=>(by cases hp),by decide,OD,fun b t=>(by obtain⟨p,hp,_⟩:=t;cases hp),hO.step H (fun _ _ x=>x),W,aS _,fun b t=>(by simp[Value.ownBlock]at t),fun b t=>(by simp[Value.ownBlock]at t),fun p hp=>(by cases hp)⟩,fun p hp=>(by cases hp),iZ _,iZ _⟩,H⟩
 go_enter func15,ntmps15;go_wp2_with fail;go_loopg [8,9,10] e.length (fun k u8 u9 u10 wr=>∃(i:Nat),u8=V i/\k+i=e.length/\UpS e w wr w.heap.size i);case atStart=>exact⟨0,rfl,by omega,I0⟩
 case round=>
  obtain⟨i,rfl,hk,I⟩:=hrel;by_cases K:i=e.length
  ·have D:¬((i:Int)<(e.length:Int)):=(by omega);have M:=hide I.step;go_wp2_with fail;go_ret;exact⟨rfl,M.o⟩
  ·have D:(i:Int)<(e.length:Int):=(by omega);have Z:(0:Int)<=(i:Int):=(by omega);obtain⟨o,l⟩:∃o,e[i]? =some o:=⟨_,bV (by omega)⟩
   have f:=T.step I.step (fun x=>x);have q0:wr.cell? ⟨g,off+i*6,none⟩=some (V o.kind):=f.cell i o l 0 (by omega);have q1:wr.cell? ⟨g,off+i*6+1,none⟩=some (V o.nn):=f.cell i o l 1 (by omega);have q2:wr.cell? ⟨g,off+i*6+2,none⟩=some (V o.wrap):=f.cell i o l 2 (by omega);have q3:wr.cell? ⟨g,off+i*6+3,none⟩=some (V o.way):=f.cell i o l 3 (by omega);have q4:wr.cell? ⟨g,off+i*6+4,none⟩=some (.string o.s):=f.cell i o l 4 (by omega);have q5:wr.cell? ⟨g,off+i*6+5,none⟩=some (V o.most):=f.cell i o l 5 (by omega);have J:=hide l;by_cases N:o.kind<1
   ·go_wp2_with fail;go_roundg (gk-1);case measure=>omega
    case rel=>exact⟨i+1,rfl,by omega,I.skip⟩
   ·by_cases Y:y<o.kind
    ·go_wp2_with fail;go_roundg (gk-1);case measure=>omega
     case rel=>exact⟨i+1,rfl,by omega,I.skip⟩
    ·have m:=nZ J.o;have u:=hide (show Calls prog 32 #[E w.heap.size,PG o.kind o.nn o.wrap o.way o.s o.most] wr fun r w'=>r= .returned (.bool true)/\UpS e w w' w.heap.size (i+1) from by
      obtain⟨ps,v,hs,pls,F,tot,a,b,c,d⟩:=I.ex;have e1:=UF J.o;have X:=QT e (i+1) (e.length-(i+1));rw[show i+1+(e.length-(i+1))=e.length by omega]at X;have e3:=ht;apply(hA o m (by omega) (by omega) w.heap.size F wr w.heap.size ps v hs pls tot a b (by omega) (by omega)).mono;rintro r w' ⟨rfl,hR⟩;obtain⟨B,v',A,n,F',R,P,x3,Q⟩:=hR.ex;exact⟨rfl,⟨B,v',A,n,F',_,R,P,by omega,by omega⟩,I.step.trans' Q (fun j hj x=>by omega)⟩)
     unfold PG at u;go_wp2_with fail;apply u.o.mono;rintro r w2 ⟨rfl,L⟩;have G:=hide (show Calls prog 33 #[E w.heap.size] w2 fun r w'=>r= .returned (.bool true)/\O w2 w' from by
      obtain⟨ps,v,hs,pls,F,tot,a,b,c,d⟩:=L.ex;exact Vp a.k (by omega))
     go_wp2_with fail;apply G.o.mono;rintro r w3 ⟨rfl,C⟩;have z:=hide (L.step0 C);go_wp2_with fail;go_roundg (gk-1);case measure=>omega
     case rel=>exact⟨i+1,rfl,by omega,z.o⟩
def Wq (e:Int)(a:Option Addr)(c:Nat)(w:aH):Calls prog 15 #[.slice a 0 c,V 1,V e] w fun r w'=>r= .returned (V (-1))/\O w w':=by
 have b:O w (w.alloc (.cells #[.slice none 0 0, .slice none 0 0] 70)):=(aU _ _).alloc _;have d:=hide b;clear b;go_enter func15,ntmps15;go_wp2_with fail;go_loopg [8] 1 (fun k u8 wr=>u8=V 0/\O w wr);case atStart=>exact⟨rfl,d.o⟩
 case round=>
  obtain⟨rfl,hs⟩:=hrel;go_wp2_with fail;go_ret;exact⟨rfl,hs⟩
def Ux (d:Int)(v:aK)(b:List CP)(w:aH)(e:Holds w v b)(m:OE d b)(l:vM b b.length<=1048576)(k:bL w)(j:4<=w.heap.size)(f:b.length<=1000000000):Calls prog 15 #[v,V 1,V d] w fun r w'=>r= .returned (V (-1))/\O w w':=by
 rcases e with⟨a,c,rfl,rfl⟩|⟨g,off,cap,rfl,e⟩
 ·exact Wq d a c w
 ·exact Hq d g off cap b w e m l k j f
def CP.inr (o:CP):Prop:= -9223372036854775808<=o.nn/\o.nn<=9223372036854775807
def Z7 (wrap:Int):vM (examples wrap) 8<=1048576:=by
 have e:vM (examples wrap) 8=24:=by kernel_rfl
 omega
def Dc (d wrap:Int)(w:aH)(l:OE d (examples wrap))(k:bL w)(g:4<=w.heap.size):Calls prog 14 #[V 1,V d,V wrap] w fun r w'=>r= .returned (.bool true)/\O w w':=by
 obtain⟨w1,a⟩:=aP (w.alloc (.cells (qU (examples wrap)).toArray 25));have b:O w w1:=by rw[a];exact(aU _ _).alloc _
 have j:w1.heap[w.heap.size]? =some (.cells (qU (examples wrap)).toArray 25 (0,0)):=by rw[a];exact aR _ _
 have f:=hide (Hq d w.heap.size 0 8 (examples wrap) w1 (W9 j (by rw[List.toList_toArray,kW (by rw[SE];exact aS _)])) l (Z7 wrap) (k.step b (fun _ _ x=>x)) (bB g b.size) (by simp[examples]));go_enter func14,ntmps14;go_wp2_with fail;subst a;refine Calls.mono f.o ?_;rintro r w2 ⟨rfl,c⟩;have e:=hide (b.trans c);go_wp2_with fail;go_ret;exact⟨rfl,e.o⟩
def Di (wrap:Int):∀o∈examples wrap,o.inr:=by intro o a;simp only[examples,fE,wQ,or_false]at a;rcases a with rfl|rfl|rfl|rfl|rfl|rfl|rfl|rfl<;>exact⟨by show(-9223372036854775808:Int)<=0;decide,by show(0:Int)<=9223372036854775807;decide⟩
variable {n0:Nat} {F:Nat->Prop} {w:aH} {wb:Nat} {ps v:aK} {hs:List Hd} {pls:List Pl} {tot:Nat}
def aA4 (h:LS n0 F w wb ps v hs pls)(hp:∀p∈pls,p.ok/\p.sx.size<=tot)(nn wrap way most:Int)(b:bY)(a:b.size<=1048576)(l:hs.length<=24000000000):I6 n0 wb w hs (tot+b.size) (PG 5 nn wrap way b most):=by
 apply(Rj wb nn wrap way most b ps v hs F w h.k h.order h.w0 h.w4 a l).mono;rintro r w' ⟨rfl,m,d,K',g,_,c,st⟩;refine⟨rfl,ps,m,d,pls,_,h.kept (vb:= .slice none 0 0) K' (fun b a x=> ?_) c st (fun j e=> ?_) (fun b a=>by simp[Value.ownBlock]at a) (fun b a=>by simp[Value.ownBlock]at a),fun p f=>⟨(hp p f).1,by have:=(hp p f).2;omega⟩,by omega,st.mono (fun j e=> ?_)⟩
 ·rcases a.1 with⟨y,_⟩|y
  ·exact h.au8 b y x
  ·have:=(h.lt x).2;omega
 ·rcases e with y|y
  ·exact .inl y
  ·exact .inr (.inl y)
 ·rcases e with y|y
  ·rw[y];exact h.low.1
  ·exact h.low.2.1 j y
def Ql (f:List CP)(h:∀o∈f,o.inr):OE 5 f:=fun o g j l _ _ _ _ _ _ _ _ tot a b c d=>by
 by_cases k:o.kind<=4
 ·exact ay1 a b o.kind o.nn o.wrap o.way o.most o.s ⟨j,k⟩ (h o g) c d
 ·have e:o.kind=5:=by omega
  rw[e]
  exact aA4 a b o.nn o.wrap o.way o.most o.s (by omega) d
def all_true (v:aK)(a:List CP)(w:aH)(l:Holds w v a)(d:∀o∈a,o.inr)(n:vM a a.length<=1048576)(f:bL w)(e:4<=w.heap.size)(m:a.length<=1000000000):Calls prog 13 #[v] w fun r w'=>r= .returned (.bool true)/\O w w':=by have p:=hide (Dc 5 0 w (Ql _ (Di 0)) f e);have j:=hide (fun w1 (hs:O w w1)=>Ux 5 v a w1 (Kt l hs) (Ql a d) n (f.step hs (fun _ _ x=>x)) (bB e hs.size) m);go_enter func13,ntmps13;go_wp2_with fail;apply p.o.mono;rintro r w1 ⟨rfl,b⟩;have k:=hide (j.o w1 b);go_wp2_with fail;apply k.o.mono;rintro r w2 ⟨rfl,c⟩;have g:=hide (b.trans c);go_wp2_with fail;go_ret;exact⟨rfl,g.o⟩
end Go.Proofs.YtbpahojchgpdnaaGreatDoor
