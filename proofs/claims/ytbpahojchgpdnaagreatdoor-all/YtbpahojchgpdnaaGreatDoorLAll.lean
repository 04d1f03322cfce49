import Derived.Test.YtbpahojchgpdnaaGreatDoorPacksA
import Derived.Test.YtbpahojchgpdnaaGreatDoorLawR
set_option maxRecDepth 20000
set_option maxHeartbeats 4000000
set_option linter.all false
namespace Go.Proofs.YtbpahojchgpdnaaGreatDoor
open Go.RowKit Go.dM Go.Proofs.Tryz
variable {i wb:Nat} {w:aH}
def Rj (wb:Nat)(nn wrap way most:Int)(b:bY)(ps v:aK)(hs:List Hd)(F:Nat->Prop)(w:aH)(K:xZ w 4 wb ps v hs F)(p:bL w)(n:4<=w.heap.size)(j:4<=wb)(q:b.size<=1048576)(s:hs.length<=24000000000):Calls prog 32 #[E wb,PG 5 nn wrap way b most] w fun r w'=>r= .returned (.bool true)/\∃c a,xZ w' 4 wb ps c a (KG w F w')/\(hs.length<a.length/\a.length<=hs.length+12)/\bL w'/\(∀k,c.ownBlock=some k->v.ownBlock=some k\/w.heap.size<=k)/\Step (fun k=>k=wb\/v.ownBlock=some k) w w':=by
 have d:O w (w.alloc (.cells #[V 5,V nn,V wrap,V way, .string b,V most] 25)):=(aU _ _).alloc _;have l:=hide (Uy wb 5 nn wrap way most b ps v hs F _ (K.step0 d) (p.step d (fun _ _ x=>x)) (bB n d.size) j q s);unfold PG at l|-
 go_enter func32,ntmps32;go_wp2_with fail;apply l.o.mono;rintro r w2 ⟨rfl,c,a,K',f,e,g,st⟩
 have m:=hide (show∃c a,xZ w2 4 wb ps c a (KG w F w2)/\(hs.length<a.length/\a.length<=hs.length+12)/\bL w2/\(∀k,c.ownBlock=some k->v.ownBlock=some k\/w.heap.size<=k)/\Step (fun k=>k=wb\/v.ownBlock=some k) w w2 from
  ⟨c,a,K'.kg (fun k x=>by
   have t:=d.size;rcases x.1 with⟨y,_⟩|y
   ·by_cases hk:k<w.heap.size
    ·exact .inl ⟨y,hk⟩
    ·exact .inr (by omega)
   ·exact .inr (by omega)),f,e,fun k hk=>(g k hk).imp id (fun x=>bB d.size x),(d.mono (fun _ x=>x.elim)).trans st⟩)
 go_wp2_with fail;go_ret;exact⟨rfl,m.o⟩
variable {n0:Nat} {F:Nat->Prop} {w:aH} {wb:Nat} {ps v:aK} {hs:List Hd} {pls:List Pl} {tot:Nat}
structure WZ (n0 wb:Nat)(w w':aH)(hs:List Hd)(tot':Nat):Prop where
 ex:∃ps' v' hs' pls' F',LS n0 F' w' wb ps' v' hs' pls'/\(∀p∈pls',p.ok/\p.sx.size<=tot')/\hs'.length<=hs.length+12/\Step (fun j=>n0<=j) w w'
abbrev I6 (n0 wb:Nat)(w:aH)(hs:List Hd)(tot':Nat)(o:aK):Prop:=Calls prog 32 #[E wb,o] w fun r w'=>r= .returned (.bool true)/\WZ n0 wb w w' hs tot'
def LS.stay (h:LS n0 F w wb ps v hs pls)(hp:∀p∈pls,p.ok/\p.sx.size<=tot){tot':Nat}(b:tot<=tot'){w':aH}(st:O w w'):WZ n0 wb w w' hs tot':=⟨ps,v,hs,pls,F,h.step0 st,fun p a=>⟨(hp p a).1,bB (hp p a).2 b⟩,by omega,st.mono (fun _ x=>x.elim)⟩
def step1 (h:LS n0 F w wb ps v hs pls)(hp:∀p∈pls,p.ok/\p.sx.size<=tot)(nn wrap way most:Int)(b:bY)(a:b.size<=1048576)(m:hs.length<=24000000000):I6 n0 wb w hs (tot+b.size) (PG 1 nn wrap way b most):=by
 apply(Dh wb nn wrap way most b ps v hs F w h.k h.order h.w0 h.w4 (by omega) (Og wrap b most a) (by omega)).mono;rintro r w' ⟨rfl,l,e,K',g,_,d,st⟩;refine⟨rfl,ps,l,e,pls,_,h.kept (vb:= .slice none 0 0) K' (fun b a x=> ?_) d st (fun j c=> ?_) (fun b a=>by simp[Value.ownBlock]at a) (fun b a=>by simp[Value.ownBlock]at a),fun p f=>⟨(hp p f).1,by have:=(hp p f).2;omega⟩,by omega,st.mono (fun j c=> ?_)⟩
 ·rcases a.1 with⟨y,_⟩|y
  ·exact h.au8 b y x
  ·have:=(h.lt x).2;omega
 ·rcases c with y|y
  ·exact .inl y
  ·exact .inr (.inl y)
 ·rcases c with y|y
  ·rw[y];exact h.low.1
  ·exact h.low.2.1 j y
def Nn:bytesOf ⟨#[]⟩=[]:=rfl
def ax9:(prog.info? 85).map (fun i=>(i.zero,i.size,i.bytes))=some (some (.pointer none),1,8):=by kernel_rfl
def Tp (h:LS n0 F w wb ps v hs pls)(hp:∀p∈pls,p.ok/\p.sx.size<=tot)(s:pls.length<4){w1 r w5:aH}(st:O w w1){k Rb:Nat}{most:Int}{Own:Nat->Prop}(hk:k<=2)(I:Rd k (asked most) w1 Rb [] [] 3 0 [] Own)(t:∀j,Own j->w.heap.size<=j)(n:O w1 r)(B:r.heap[w1.heap.size]? =some (.cells (Fb w1.heap.size Rb k most Own).cells 87 (0,0))){g cap:Nat}(f:w5.ownsRow 4 85 1 (.slice (some (U g 0)) (pls.length+1) cap) (pls.length+1) (pls.map BN++[(E w1.heap.size)]))(c:r.grownBy w5 ps.ownBlock)(D:ps.ownBlock=some g\/r.heap.size<=g){tot':Nat}(J:tot<=tot'):w5.heap[wb]? =some (.cells #[ps,v] 70 (0,0))/\WZ n0 wb w (w5.setCell (U wb 0) (.slice (some (U g 0)) (pls.length+1) cap)) hs tot':=by
 have z:=h.step0 (st.trans n);have L:=st.size;have M:=n.size;have K:=h.Wx;have d:Step (fun j=>ps.ownBlock=some j) r w5:=⟨c.os,c.tape,c.output,c.size,fun j G hn=>c.block j G (fun e=>hn e.symm)⟩
 have q:w5.heap[wb]? =some (.cells #[ps,v] 70 (0,0)):=d.at_ z.k.blk (fun x=>gM z.k.blk z.row (by decide) x);refine⟨q,?_⟩;have m:Step (fun j=>j=wb\/ps.ownBlock=some j) w1 (w5.setCell (U wb 0) (.slice (some (U g 0)) (pls.length+1) cap)):=((n.mono (fun _ x=>x.elim)).trans (d.mono (fun j x=> .inr x))).setCell (p:=(U wb 0)) (.inl rfl) _;have l:¬(w1.heap.size=wb\/ps.ownBlock=some w1.heap.size):=fun x=>by
  rcases x with x|x
  ·omega
  ·have:=(h.row.lt _ x).2;omega
 have u:(w5.setCell (U wb 0) (.slice (some (U g 0)) (pls.length+1) cap)).heap[w1.heap.size]? =some (.cells (Fb w1.heap.size Rb k most Own).cells 87 (0,0)):=((aU (·=wb) w5).setCell (p:=(U wb 0)) rfl _).at_ (d.at_ B (fun x=>l (.inr x))) (fun x=>l (.inl x));have y:=aV q 0 (.slice (some (U g 0)) (pls.length+1) cap);have H:=h.ltF;have A:=H.joined (fun b x=>x.2) s st hk I t (aS _) u (mI f (a:=(U wb 0)) (gM q f (by decide)) _) (fun b C=> ?_) (by simpa using y) m
 ·refine⟨_,v,hs,_,_,A,fun p o=> ?_,by omega,(st.mono (fun _ x=>x.elim)).trans (m.mono (fun j x=> ?_))⟩
  ·rcases iF.1 o with o|o
   ·exact⟨(hp p o).1,bB (hp p o).2 J⟩
   ·rw[qB]at o;rw[o];exact⟨⟨Nn,rfl⟩,iZ _⟩
  ·rcases x with x|x
   ·rw[x];exact h.low.1
   ·exact h.low.2.2.1 j x
 ·simp only[Value.ownBlock,fH]at C;rw[<-C];exact D.imp id (fun x=>by omega)
def ac8 (h:LS n0 F w wb ps v hs pls)(hp:∀p∈pls,p.ok/\p.sx.size<=tot)(nn wrap way most:Int)(b:bY)(e:wrap<0\/2<wrap):I6 n0 wb w hs (tot+b.size) (PG 2 nn wrap way b most):=by
 have j:=hide (fun W=>Y7 wrap most W (by omega) (by omega) (by omega));have g:=hide (fun W k=>h.stay hp (tot':=tot+b.size) (by omega) (w':=W) k);unfold PG;rcases e with e|e;rotate_left;focus
  have m:¬wrap<0:=by omega
 all_goals
  go_enter func32,ntmps32;go_wp2_with fail;apply(j.o _).mono;rintro r w1 ⟨rfl,c⟩;have d:=((aU (fun _=>False) w).alloc (.cells #[V 2,V nn,V wrap,V way, .string b,V most] 25))
  have a:=c.at_ (aR w (.cells #[V 2,V nn,V wrap,V way, .string b,V most] 25)) (fun x=>x);have l:=aO a;have c2:w1.cell? (U w.heap.size 2)=some (V wrap):=aC a 2 _ rfl;have f:=hide (g.o w1 (d.trans c));go_wp2_with fail;go_ret;exact⟨rfl,f.o⟩
def a96 (h:LS n0 F w wb ps v hs pls)(hp:∀p∈pls,p.ok/\p.sx.size<=tot)(nn:Int)(k:Nat)(way most:Int)(b:bY)(hk:k<=2):I6 n0 wb w hs (tot+b.size) (PG 2 nn (k:Nat) way b most):=by
  obtain⟨i0,hi,N,P,Q⟩:=eD ax9;have S:=hide (fun W (I:O w W)=>ZO k most W hk (h.order.step I (fun _ _ x=>x)) (bB h.w0 I.size));obtain⟨A,C,M⟩:=mJ h.row;have ah:=h.Wx;have aa:=h.few;have R:=hide (fun W I=>h.stay hp (tot':=tot+b.size) (by omega) (w':=W) I);have HH:=hide h;have HP:=hide hp;have m:=hide M;have kl:¬((k:Int)<0):=by omega
  have kg:¬((2:Int)<(k:Int)):=by omega
  clear hp;unfold PG;go_enter func32,ntmps32;go_wp2_with fail;have q:=((aU (fun _=>False) w).alloc (.cells #[V 2,V nn,V k,V way, .string b,V most] 25))
  apply(S.o _ q).mono;rintro r w1 ⟨Rb,Own,rfl,H,f,s⟩;have e:=s.at_ (aR w (.cells #[V 2,V nn,V k,V way, .string b,V most] 25)) (fun x=>x);have ag:=aO e;have c2:w1.cell? (U w.heap.size 2)=some (V k):=aC e 2 _ rfl;have Z:w1.cell? (U w.heap.size 5)=some (V most):=aC e 5 _ rfl;have a:=q.trans s;have d:=a.at_ h.k.blk (fun x=>x);have k0:w1.cell? (U wb 0)=some (.slice A pls.length C):=by rw[<-m.o];exact aC d 0 _ rfl
  have f0:=aJ d 0;have ab:=aO d;by_cases h4:pls.length<4
  . have L:((pls.length:Nat):Int)<4:=by omega
    have n:=hide (aQ a (aQ H f));have c:=eX h.row a (fun _ _ x=>x);rw[m.o]at c;have y:=hide c;have ad:=hide d;have af:4<=w1.heap.size:=bB h.w0 a.size;have ac:¬wb=w.heap.size:=(by omega);clear S s q H f a d e h c R;have HJ:=hide (show∀(z w5:aH) (g cap:Nat),O w1 z->z.heap[w1.heap.size]? =some (.cells #[E Rb,V k,V most, .string ⟨#[]⟩,V 0] 87 (0,0))->w5.ownsRow 4 85 1 (.slice (some (U g 0)) (pls.length+1) cap) (pls.length+1) (pls.map BN++[(E w1.heap.size)])->z.grownBy w5 (Value.slice A pls.length C).ownBlock->((Value.slice A pls.length C).ownBlock=some g\/z.heap.size<=g)->w5.heap[wb]? =some (.cells #[.slice A pls.length C,v] 70 (0,0))/\WZ n0 wb w (w5.setCell (U wb 0) (.slice (some (U g 0)) (pls.length+1) cap)) hs (tot+b.size) from fun z w5 g cap a1 a2 a3 X Y=>by
      rw[<-m.o]at X Y|-
      exact Tp HH.o HP.o h4 n.o.1 hk n.o.2.1 (fun j hj=>by have:=n.o.2.2 j hj;simp at this;omega) a1 a2 a3 X Y (by omega))
    go_upto_region 9 with fail;go_region_law (first
      | (refine AB rfl (.tmp 49) (.tmp 57) 67 rfl 4 85 i0 _ 1 8 underlying67 hi N P Q rfl (by decide) (.slice A pls.length C) pls.length (pls.map BN) (by simp [Act.eval]) (by exact (y.o.alloc _).alloc _) ⟨w1.heap.size + 1, 0, none⟩ 1 1 [(E w1.heap.size)] (by simp [Act.eval]) rfl ?c1 ?c2 (by decide) ?c3 ?c4 ?Z ?_
         case c1=>
           intro j u t;match j,t with
           |0,t=>simp at t;subst t;simp[Addr.add]
         case c2=>
           intro u t;simp at t;subst t;rfl
         case c3=>unfold maxLen;omega
         case c4=>omega
         case Z=>simp;omega
         intro g' B w5 l G D
         obtain⟨K,T⟩:=HJ.o _ w5 g' B (((aU (fun _=>False) w1).drew.alloc _).alloc _) (by exact((aU (fun _=>False) (w1.drew.alloc _)).alloc _).at_ (k:=w1.heap.size) (aR w1.drew _) (fun x=>x)) l G D
         have ai:=aC K 0 _ rfl
         have ae:=aJ K 0
         have J:=hide T
         clear l G D K T))
    all_goals
      go_wp2_with fail;go_ret;exact⟨rfl,J.o⟩
  . have L:¬((pls.length:Nat):Int)<4:=by omega
    have HE:=hide (R.o w1 a);go_wp2_with fail;go_ret;exact⟨rfl,HE.o⟩
variable {n0:Nat} {F:Nat->Prop} {w:aH} {wb:Nat} {ps v:aK} {hs:List Hd} {pls:List Pl} {tot:Nat}
def LS.pick (h:LS n0 F w wb ps v hs pls)(j:0<pls.length)(i:Nat)(hi:i<pls.length):∃g e l1 p l2,ps= .slice (some (U g 0)) pls.length e/\pls=l1++p::l2/\w.cell? (U g i)=some (E p.pb):=by
 obtain⟨p,hp⟩:∃p,pls[i]? =some p:=⟨_,bV hi⟩
 obtain⟨l1,l2,f⟩:=List.append_of_mem (nZ hp);have a:=h.row;obtain⟨_,⟨_,k⟩|⟨g,cap,d,c,_⟩⟩:=a
 ·omega
 ·refine⟨g,cap,l1,p,l2,c,f,?_⟩;have b:=h.row;rw[c]at b;rw[b.cellAt i (by omega),kE,hp];rfl
def Da (kind:Int)(a:kind=3\/kind=4)(h:LS n0 F w wb ps v hs pls)(hp:∀p∈pls,p.ok/\p.sx.size<=tot)(d:pls.length=0)(nn wrap way most:Int)(b:bY):I6 n0 wb w hs (tot+b.size) (PG kind nn wrap way b most):=by
 obtain⟨f,g,c⟩:=mJ h.row;rw[d]at c;have r:w.cell? (U wb 0)=some (.slice f 0 g):=by rw[<-c];exact aC h.k.blk 0 _ rfl
 have l:=h.Wx;have e:=hide (fun W j=>h.stay hp (tot':=tot+b.size) (by omega) (w':=W) j);have m:(kind==1)=false:=aX.2 (by omega);have n:(kind==2)=false:=aX.2 (by omega);have q:(kind==5)=false:=aX.2 (by omega);clear h hp c d a;unfold PG;go_enter func32,ntmps32;go_wp2_with fail;go_ret;exact⟨rfl,e.o _ ((aU _ _).alloc _)⟩
def Jh (h:LS n0 F w wb ps v hs pls)(hp:∀p∈pls,p.ok/\p.sx.size<=tot)(t:0<pls.length)(nn wrap way most:Int)(b:bY)(j: -9223372036854775808<=nn/\nn<=9223372036854775807)(hb:tot+b.size<=1048576)(N:hs.length<=24000000000):I6 n0 wb w hs (tot+b.size) (PG 3 nn wrap way b most):=by
 have f:=h.few;obtain⟨i,hi,a⟩:=Er nn pls.length j.1 j.2 t (by omega);obtain⟨g,I,l1,p,l2,l,c,e⟩:=h.pick t i hi;have m:=((aU (fun _=>False) w).alloc (.cells #[V 3,V nn,V wrap,V way, .string b,V most] 25))
 have S:w.cell? (U wb 0)=some (.slice (some (U g 0)) pls.length I):=by rw[<-l];exact aC h.k.blk 0 _ rfl
 have R:=h.Wx;have u:=kF w _ e;dsimp only at u;have d:p∈pls:=by rw[c];exact dR
 have A:=m.size;have s:=hide (show∀W,O w W->Calls prog 46 #[E wb,E p.pb, .string b] W fun r w'=>r= .returned (.bool true)/\WZ n0 wb w w' hs (tot+b.size) from fun W C=>by
  have B:=h.step0 C;rw[c]at B;refine(Kw B (hp p d).1 b (by have:=(hp p d).2;omega) N).mono ?_;rintro r w' ⟨rfl,X,y,T,D,a1,a2,Y,Z,H⟩;refine⟨rfl,ps,X,y,l1++T::l2,D,a1,fun x z=> ?_,by omega,(C.mono (fun _ x=>x.elim)).trans H⟩;rcases kG z with rfl|z
  ·exact⟨a2,by have:=(hp p d).2;omega⟩
  ·have:=hp x (by rw[c];exact fU z);exact⟨this.1,by omega⟩)
 obtain⟨n,hn⟩:=aP pls.length;rw[<-hn]at S a;have P:((n:Int)==0)=false:=aX.2 (by omega);have M:(i:Int)<(n:Int):=by omega
 have L:(0:Int)<=(i:Int):=by omega
 have q:=hide a;have K:¬g=w.heap.size:=by omega
 have Q:¬wb=w.heap.size:=by omega
 clear h hp t l c d a hn hi A m f;unfold PG;go_enter func32,ntmps32;go_wp2_with fail;go_quiet (first|(go_at_call 45;exact P9 (q.o _)));go_wp2_with fail;apply(s.o _ (((aU (fun _=>False) w).alloc _).drewN _)).mono;rintro r w3 ⟨rfl,J⟩;have G:=hide J;go_wp2_with fail;go_ret;exact⟨rfl,G.o⟩
def Mv (h:LS n0 F w wb ps v hs pls)(hp:∀p∈pls,p.ok/\p.sx.size<=tot)(t:0<pls.length)(nn wrap way most:Int)(b:bY)(j: -9223372036854775808<=nn/\nn<=9223372036854775807)(N:tot+b.size<=1048576):I6 n0 wb w hs (tot+b.size) (PG 4 nn wrap way b most):=by
 have f:=h.few;obtain⟨i,hi,a⟩:=Er nn pls.length j.1 j.2 t (by omega);obtain⟨g,C,l1,p,l2,l,c,d⟩:=h.pick t i hi;have m:=((aU (fun _=>False) w).alloc (.cells #[V 4,V nn,V wrap,V way, .string b,V most] 25))
 have M:w.cell? (U wb 0)=some (.slice (some (U g 0)) pls.length C):=by rw[<-l];exact aC h.k.blk 0 _ rfl
 have L:=h.Wx;have u:=kF w _ d;dsimp only at u;have e:p∈pls:=by rw[c];exact dR
 have y:=m.size;have s:=hide (show∀W,O w W->Calls prog 47 #[E p.pb] W fun r w'=>r= .returned (.bool true)/\WZ n0 wb w w' hs (tot+b.size) from fun W A=>by
  have z:=h.step0 A;rw[c]at z;refine(a09 z (hp p e).1 (by have:=(hp p e).2;omega)).mono ?_;rintro r w' ⟨rfl,x⟩;exact⟨rfl,h.stay hp (by omega) (A.trans x)⟩)
 obtain⟨n,hn⟩:=aP pls.length;rw[<-hn]at M a;have J:((n:Int)==0)=false:=aX.2 (by omega);have I:(i:Int)<(n:Int):=by omega
 have H:(0:Int)<=(i:Int):=by omega
 have q:=hide a;have G:¬g=w.heap.size:=by omega
 have K:¬wb=w.heap.size:=by omega
 clear h hp t l c e a hn hi y m f;unfold PG;go_enter func32,ntmps32;go_wp2_with fail;go_quiet (first|(go_at_call 45;exact P9 (q.o _)));go_wp2_with fail;apply(s.o _ (((aU (fun _=>False) w).alloc _).drewN _)).mono;rintro r w3 ⟨rfl,D⟩;have B:=hide D;go_wp2_with fail;go_ret;exact⟨rfl,B.o⟩
def ay1 (h:LS n0 F w wb ps v hs pls)(hp:∀p∈pls,p.ok/\p.sx.size<=tot)(kind nn wrap way most:Int)(b:bY)(hk:1<=kind/\kind<=4)(a: -9223372036854775808<=nn/\nn<=9223372036854775807)(d:tot+b.size<=1048576)(e:hs.length<=24000000000):I6 n0 wb w hs (tot+b.size) (PG kind nn wrap way b most):=by
 have c:kind=1\/kind=2\/kind=3\/kind=4:=by omega
 rcases c with rfl|rfl|c
 ·exact step1 h hp nn wrap way most b (by omega) e
 ·by_cases g:wrap<0\/2<wrap
  ·exact ac8 h hp nn wrap way most b g
  ·obtain⟨k,rfl⟩:∃k:Nat,wrap=(k:Int):=⟨wrap.toNat,by omega⟩
   exact a96 h hp nn k way most b (by omega)
 ·by_cases f:pls.length=0
  ·exact Da kind c h hp f nn wrap way most b
  ·rcases c with rfl|rfl
   ·exact Jh h hp (by omega) nn wrap way most b a d e
   ·exact Mv h hp (by omega) nn wrap way most b a d
def vM (ops:List CP)(i:Nat):Nat:=((ops.take i).map (·.s.size)).sum
def UF {a:List CP}{o:CP}(h:a[i]? =some o):vM a (i+1)=vM a i+o.s.size:=by unfold vM;rw[jE,h];simp
def QT (a:List CP)(i d:Nat):vM a i<=vM a (i+d):=by
 induction d with
 |zero=>exact aS _
 |succ d ih=>
  refine bB ih ?_;cases h:a[i+d]? with
  |none=>
   have:vM a (i+d+1)=vM a (i+d):=(by unfold vM;rw[jE,h];simp);rw[<-iV,this];exact aS _
  |some r=>rw[<-iV,UF h];omega
structure UpS (ops:List CP)(w wr:aH)(wb i:Nat):Prop where
 ex:∃ps v hs pls F tot,LS w.heap.size F wr wb ps v hs pls/\(∀p∈pls,p.ok/\p.sx.size<=tot)/\tot<=vM ops i/\hs.length<=12*i
 step:O w wr
def UpS.step0 {c:List CP}{wr w2:aH}(I:UpS c w wr wb i)(h:O wr w2):UpS c w w2 wb i:=by obtain⟨ps,v,hs,pls,F,tot,a,b⟩:=I.ex;exact⟨⟨ps,v,hs,pls,F,tot,a.step0 h,b⟩,I.step.trans h⟩
def UpS.skip {e:List CP}{wr:aH}(I:UpS e w wr wb i):UpS e w wr wb (i+1):=by obtain⟨ps,v,hs,pls,F,tot,a,b,c,d⟩:=I.ex;have:=QT e i 1;exact⟨⟨ps,v,hs,pls,F,tot,a,b,by omega,by omega⟩,I.step⟩
def Uz (wb:Nat)(a:Option Addr)(c:Nat)(w:aH)(h:w.cell? (U wb 1)=some (.slice a 0 c)):Calls prog 33 #[E wb] w fun r w'=>r= .returned (.bool true)/\O w w':=by
 go_enter func33,ntmps33;go_wp2_with fail;go_loopg [3] 1 (fun k i wr=>i=V 0/\wr=w);case atStart=>exact⟨rfl,rfl⟩
 case round=>
  obtain⟨rfl,rfl⟩:=hrel;go_wp2_with fail;go_ret;exact⟨rfl,aU _ _⟩
def Vp {ps v:aK}{hs:List Hd}{F:Nat->Prop}(K:xZ w 4 wb ps v hs F)(k:hs.length<=281474976710656):Calls prog 33 #[E wb] w fun r w'=>r= .returned (.bool true)/\O w w':=by
 have own:=K.own;have b:=K.blk;obtain⟨_,⟨a,l⟩|⟨g,cap,e,a,_⟩⟩:=own
 ·subst a;exact Uz wb none 0 w (aC b 1 _ rfl)
 ·have own:=K.own;subst a;refine Zu wb g hs.length cap w ⟨aC b 1 _ rfl,fun j f=> ?_,k⟩;obtain⟨q,d⟩:∃q,hs[j]? =some q:=⟨_,bV f⟩
  have c:=own.cellAt j (by omega);rw[kE,d]at c;exact⟨q.hp,q.v,q.n,q.m,c,(K.each q (nZ d)).1.hold⟩
def OE (la:Int)(ops:List CP):Prop:=∀o∈ops,1<=o.kind->o.kind<=la->∀(n0:Nat) (F:Nat->Prop) (w:aH) (wb:Nat) (ps v:aK) (hs:List Hd) (pls:List Pl) (tot:Nat),LS n0 F w wb ps v hs pls->(∀p∈pls,p.ok/\p.sx.size<=tot)->tot+o.s.size<=1048576->hs.length<=24000000000->I6 n0 wb w hs (tot+o.s.size) (PG o.kind o.nn o.wrap o.way o.s o.most)
def Hq (D:Int)(g off cap:Nat)(e:List CP)(w:aH)(X:yB w g off e)(S:OE D e)(ht:vM e e.length<=1048576)(T:bL w)(R:4<=w.heap.size)(hl:e.length<=1000000000):Calls prog 15 #[.slice (some (U g off)) e.length cap,V 1,V D] w fun r w'=>r= .returned (V (-1))/\O w w':=by
 have K:O w (w.alloc (.cells #[.slice none 0 0, .slice none 0 0] 70)):=(aU _ _).alloc _
 have P:UpS e w (w.alloc (.cells #[.slice none 0 0, .slice none 0 0] 70)) w.heap.size 0:=
  ⟨⟨.slice none 0 0, .slice none 0 0,[],[],fun _=>False,0,⟨⟨aR _ _,jJ _ _ _ _,fun q hq=>(by cases hq)⟩,fun _ x=>x.elim,jJ _ _ _ _,fun p hp=>(by cases hp),fun p hp=>(by cases hp),by decide,OD,fun b n=>(by obtain⟨p,hp,_⟩:=n;cases hp),T.step K (fun _ _ x=>x),R,aS _,fun b n=>(by simp[Value.ownBlock]at n),fun b n=>(by simp[Value.ownBlock]at n),fun p hp=>(by cases hp)⟩,fun p hp=>(by cases hp),iZ _,iZ _⟩,K⟩
 go_enter func15,ntmps15;go_wp2_with fail;go_loopg [8,9,10] e.length (fun k u8 u9 u10 wr=>∃(i:Nat),u8=V i/\k+i=e.length/\UpS e w wr w.heap.size i);case atStart=>exact⟨0,rfl,by omega,P⟩
 case round=>
  obtain⟨i,rfl,hk,I⟩:=hrel;by_cases L:i=e.length
  ·have A:¬((i:Int)<(e.length:Int)):=(by omega);have N:=hide I.step;go_wp2_with fail;go_ret;exact⟨rfl,N.o⟩
  ·have A:(i:Int)<(e.length:Int):=(by omega);have Y:(0:Int)<=(i:Int):=(by omega);obtain⟨o,l⟩:∃o,e[i]? =some o:=⟨_,bV (by omega)⟩
   have f:=X.step I.step (fun x=>x);have q0:wr.cell? ⟨g,off+i*6,none⟩=some (V o.kind):=f.cell i o l 0 (by omega);have q1:wr.cell? ⟨g,off+i*6+1,none⟩=some (V o.nn):=f.cell i o l 1 (by omega);have q2:wr.cell? ⟨g,off+i*6+2,none⟩=some (V o.wrap):=f.cell i o l 2 (by omega);have q3:wr.cell? ⟨g,off+i*6+3,none⟩=some (V o.way):=f.cell i o l 3 (by omega);have q4:wr.cell? ⟨g,off+i*6+4,none⟩=some (.string o.s):=f.cell i o l 4 (by omega);have q5:wr.cell? ⟨g,off+i*6+5,none⟩=some (V o.most):=f.cell i o l 5 (by omega);have H:=hide l;by_cases Z:o.kind<1
   ·go_wp2_with fail;go_roundg (gk-1);case measure=>omega
    case rel=>exact⟨i+1,rfl,by omega,I.skip⟩
   ·by_cases aa:D<o.kind
    ·go_wp2_with fail;go_roundg (gk-1);case measure=>omega
     case rel=>exact⟨i+1,rfl,by omega,I.skip⟩
    ·have t:=nZ H.o;have m:=hide (show Calls prog 32 #[E w.heap.size,PG o.kind o.nn o.wrap o.way o.s o.most] wr fun r w'=>r= .returned (.bool true)/\UpS e w w' w.heap.size (i+1) from by
      obtain⟨ps,v,hs,pls,F,tot,a,b,c,d⟩:=I.ex;have e1:=UF H.o;have Q:=QT e (i+1) (e.length-(i+1));rw[show i+1+(e.length-(i+1))=e.length by omega]at Q;have e3:=ht;apply(S o t (by omega) (by omega) w.heap.size F wr w.heap.size ps v hs pls tot a b (by omega) (by omega)).mono;rintro r w' ⟨rfl,W⟩;obtain⟨G,v',B,u,M,x1,x2,x3,x4⟩:=W.ex;exact⟨rfl,⟨G,v',B,u,M,_,x1,x2,by omega,by omega⟩,I.step.trans' x4 (fun j hj x=>by omega)⟩)
     unfold PG at m;go_wp2_with fail;apply m.o.mono;rintro r w2 ⟨rfl,J⟩;have z:=hide (show Calls prog 33 #[E w.heap.size] w2 fun r w'=>r= .returned (.bool true)/\O w2 w' from by
      obtain⟨ps,v,hs,pls,F,tot,a,b,c,d⟩:=J.ex;exact Vp a.k (by omega))
     go_wp2_with fail;apply z.o.mono;rintro r w3 ⟨rfl,C⟩;have y:=hide (J.step0 C);go_wp2_with fail;go_roundg (gk-1);case measure=>omega
     case rel=>exact⟨i+1,rfl,by omega,y.o⟩
def Wq (e:Int)(a:Option Addr)(c:Nat)(w:aH):Calls prog 15 #[.slice a 0 c,V 1,V e] w fun r w'=>r= .returned (V (-1))/\O w w':=by
 have b:O w (w.alloc (.cells #[.slice none 0 0, .slice none 0 0] 70)):=(aU _ _).alloc _;have d:=hide b;clear b;go_enter func15,ntmps15;go_wp2_with fail;go_loopg [8] 1 (fun k u8 wr=>u8=V 0/\O w wr);case atStart=>exact⟨rfl,d.o⟩
 case round=>
  obtain⟨rfl,hs⟩:=hrel;go_wp2_with fail;go_ret;exact⟨rfl,hs⟩
def Ux (d:Int)(v:aK)(b:List CP)(w:aH)(e:Holds w v b)(j:OE d b)(m:vM b b.length<=1048576)(k:bL w)(f:4<=w.heap.size)(l:b.length<=1000000000):Calls prog 15 #[v,V 1,V d] w fun r w'=>r= .returned (V (-1))/\O w w':=by
 rcases e with⟨a,c,rfl,rfl⟩|⟨g,off,cap,rfl,e⟩
 ·exact Wq d a c w
 ·exact Hq d g off cap b w e j m k f l
def CP.inr (o:CP):Prop:= -9223372036854775808<=o.nn/\o.nn<=9223372036854775807
def Z7 (wrap:Int):vM (examples wrap) 8<=1048576:=by
 have e:vM (examples wrap) 8=24:=by kernel_rfl
 omega
def Dc (d wrap:Int)(w:aH)(j:OE d (examples wrap))(k:bL w)(g:4<=w.heap.size):Calls prog 14 #[V 1,V d,V wrap] w fun r w'=>r= .returned (.bool true)/\O w w':=by
 obtain⟨w1,a⟩:=aP (w.alloc (.cells (qU (examples wrap)).toArray 25));have b:O w w1:=by rw[a];exact(aU _ _).alloc _
 have l:w1.heap[w.heap.size]? =some (.cells (qU (examples wrap)).toArray 25 (0,0)):=by rw[a];exact aR _ _
 have f:=hide (Hq d w.heap.size 0 8 (examples wrap) w1 (W9 l (by rw[List.toList_toArray,kW (by rw[SE];exact aS _)])) j (Z7 wrap) (k.step b (fun _ _ x=>x)) (bB g b.size) (by simp[examples]));go_enter func14,ntmps14;go_wp2_with fail;subst a;refine Calls.mono f.o ?_;rintro r w2 ⟨rfl,c⟩;have e:=hide (b.trans c);go_wp2_with fail;go_ret;exact⟨rfl,e.o⟩
def Di (wrap:Int):∀o∈examples wrap,o.inr:=by intro o a;simp only[examples,fE,wQ,or_false]at a;rcases a with rfl|rfl|rfl|rfl|rfl|rfl|rfl|rfl<;>exact⟨by show(-9223372036854775808:Int)<=0;decide,by show(0:Int)<=9223372036854775807;decide⟩
variable {n0:Nat} {F:Nat->Prop} {w:aH} {wb:Nat} {ps v:aK} {hs:List Hd} {pls:List Pl} {tot:Nat}
def aA4 (h:LS n0 F w wb ps v hs pls)(hp:∀p∈pls,p.ok/\p.sx.size<=tot)(nn wrap way most:Int)(b:bY)(a:b.size<=1048576)(g:hs.length<=24000000000):I6 n0 wb w hs (tot+b.size) (PG 5 nn wrap way b most):=by
 apply(Rj wb nn wrap way most b ps v hs F w h.k h.order h.w0 h.w4 a g).mono;rintro r w' ⟨rfl,m,e,K',l,_,d,st⟩;refine⟨rfl,ps,m,e,pls,_,h.kept (vb:= .slice none 0 0) K' (fun b a x=> ?_) d st (fun j c=> ?_) (fun b a=>by simp[Value.ownBlock]at a) (fun b a=>by simp[Value.ownBlock]at a),fun p f=>⟨(hp p f).1,by have:=(hp p f).2;omega⟩,by omega,st.mono (fun j c=> ?_)⟩
 ·rcases a.1 with⟨y,_⟩|y
  ·exact h.au8 b y x
  ·have:=(h.lt x).2;omega
 ·rcases c with y|y
  ·exact .inl y
  ·exact .inr (.inl y)
 ·rcases c with y|y
  ·rw[y];exact h.low.1
  ·exact h.low.2.1 j y
def Ql (f:List CP)(h:∀o∈f,o.inr):OE 5 f:=fun o k g l _ _ _ _ _ _ _ _ tot a b c d=>by
 by_cases j:o.kind<=4
 ·exact ay1 a b o.kind o.nn o.wrap o.way o.most o.s ⟨g,j⟩ (h o k) c d
 ·have e:o.kind=5:=by omega
  rw[e]
  exact aA4 a b o.nn o.wrap o.way o.most o.s (by omega) d
def all_true (v:aK)(a:List CP)(w:aH)(m:Holds w v a)(c:∀o∈a,o.inr)(p:vM a a.length<=1048576)(f:bL w)(e:4<=w.heap.size)(n:a.length<=1000000000):Calls prog 13 #[v] w fun r w'=>r= .returned (.bool true)/\O w w':=by have j:=hide (Dc 5 0 w (Ql _ (Di 0)) f e);have l:=hide (fun w1 (hs:O w w1)=>Ux 5 v a w1 (Kt m hs) (Ql a c) p (f.step hs (fun _ _ x=>x)) (bB e hs.size) n);go_enter func13,ntmps13;go_wp2_with fail;apply j.o.mono;rintro r w1 ⟨rfl,b⟩;have g:=hide (l.o w1 b);go_wp2_with fail;apply g.o.mono;rintro r w2 ⟨rfl,d⟩;have k:=hide (b.trans d);go_wp2_with fail;go_ret;exact⟨rfl,k.o⟩
end Go.Proofs.YtbpahojchgpdnaaGreatDoor
