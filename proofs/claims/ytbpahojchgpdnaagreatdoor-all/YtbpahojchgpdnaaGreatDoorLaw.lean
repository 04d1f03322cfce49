import Derived.Lib.BufferWrite
import Derived.Test.YtbpahojchgpdnaaGreatDoorXTold
set_option maxRecDepth 20000
set_option maxHeartbeats 4000000
set_option linter.all false
namespace Go.Proofs.YtbpahojchgpdnaaGreatDoor
open Go.RowKit Go.dM Go.Proofs.Tryz
variable {base cap e g h m n wb:Nat} {ps v vb:aK} {w w' w0 w1 wr:aH} {xs:List aK}
def jS (b:bY)(i:Nat):aK:= .int .u8 (if i<b.size then((bytesOf b)[i]?.getD 0:Nat)else 201:Nat)
def TH (B:Nat)(b:bY)(w:aH)(j:bA w B 5 (b.size+8) (jS b))(u:b.size<=140737488351232):Calls prog 68 #[.slice (some (U B 0)) (b.size+8) (b.size+8), .string b] w fun r w'=>r= .returned (.bool true)/\O w w':=by
 go_enter func68,ntmps68;go_wp2_with fail;go_loopg [5] (b.size+8) (fun g i wr=>∃n:Nat,i=V n/\g+n=b.size+8/\O w wr);case atStart=>exact⟨0,rfl,rfl,aU _ _⟩
 case round=>
  obtain⟨n,rfl,y,d⟩:=hrel;have t:n<=b.size+8:=by omega
  by_cases o:n=b.size+8
  ·have l:¬((n:Int)<(b.size:Int)+8):=(by omega);go_wp2_with fail;go_ret;exact⟨rfl,d⟩
  ·have a:=(j.step d (fun x=>x)).cell n (by omega);have l:((n:Int)<(b.size:Int)+8):=(by omega);have s:(0:Int)<=(n:Int):=(by omega);have q:n+1+(gk-1)=b.size+8:=(by omega);unfold jS at a;by_cases c:n<b.size;focus
    have k:((n:Int)<(b.size:Int)):=(by omega);have f:¬(b.size<=n):=(by omega);have p:decide (b.size<=n)=false:=fT f;rw[aA c,BX b n c]at a
   rotate_left;focus
    have k:¬((n:Int)<(b.size:Int)):=(by omega);have f:((b.size:Int)<=(n:Int)):=(by omega);rw[aB c]at a
   all_goals
    go_wp2_with fail;go_quiet (fail);go_wp2_with fail;go_roundg (gk-1);case measure=>omega
    case rel=>exact⟨n+1,rfl,by omega,d.trans ((aU _ _).drewN _)⟩
def Ad (b:bY)(w:aH)(Q:b.size<=140737488351232):Calls prog 66 #[.string b] w fun r w'=>r= .returned (.slice (some (U w.heap.size 0)) (b.size+8) (b.size+8))/\bA w' w.heap.size 5 (b.size+8) (jS b)/\O w w':=by
 obtain⟨H,hi,C,t,D⟩:=eD info5;have j:(prog.info? 5).map (·.size)=some 1:=by rw[hi];simp[t]
 obtain⟨M,x⟩:=aP (madeCells (Value.int .u8 0).cells (((b.size:Int)+8).toNat*H.size));have y:M.size=b.size+8:=by rw[x,size_madeCells,t];omega
 have L:∀W:aH,(Instr.makeSlice 31 (V ((b.size:Int)+8)) (V ((b.size:Int)+8))).run prog W= .ok (.slice (some (U W.heap.size 0)) (b.size+8) (b.size+8)) (W.alloc (.cells M 5)):=fun W=>by
  have h:=run_make (P:=prog) W 31 5 H (.int .u8 0) underlying31 hi C .i64 .i64 ((b.size:Int)+8) ((b.size:Int)+8) (by omega) (by omega) (by rw[D];omega) (by omega);rw[<-x,show((b.size:Int)+8).toNat=b.size+8 by omega]at h;exact h
 have p:=Lib.run_copy_row_string (P:=prog) (w.alloc (.cells M 5)) 31 9 3 5 w.heap.size 0 (b.size+8) (b.size+8) b M 5 underlying31 j (aR w _) (by omega) (by omega);obtain⟨Y,u⟩:=aP ((M.toList.take 0++Lib.byteCells b.data.toList++M.toList.drop (0+b.size)).toArray);rw[<-u]at p;obtain⟨w2,c⟩:=aP ((w.alloc (.cells M 5)).setRow w.heap.size Y);rw[<-c]at p;have s:O w w2:=by rw[c];exact((aU _ _).alloc _).Wt (aS _) Y
 have z:Y.size=b.size+8:=by
  rw[u,xD,aN,aN,dX,Lib.byteCells_length,<-Lib.size_eq,show M.toList.length=b.size+8 by rw[IE];exact y,uS,pE];omega
 have l:∀i,i<b.size->Y[i]?.getD undef=jS b i:=fun i hi=>by
  unfold jS;rw[aA hi,BX b i hi,u,CZ,uS,iO,jA (by rw[Lib.byteCells_length,<-Lib.size_eq];exact hi)];simp[Lib.byteCells,hi];rfl
 have k:bA w2 w.heap.size 5 (b.size+8) (fun i=>if i<b.size then jS b i else Y[i]?.getD undef):=by
  refine⟨Y,by rw[c];exact setRow_heap _ _ M _ 5 (0,0) (aR w _),z,fun i hi=> ?_⟩;dsimp only;by_cases f:i<b.size
  ·rw[aA f,<-l i f,OI (by omega)];rfl
  ·rw[aB f,OI (by omega)];rfl
 clear x u c l;go_enter func66,ntmps66;go_wp2_with fail;go_loopg [4] 8 (fun g i wr=>∃n:Nat,i=V n/\g+n=b.size+8/\b.size<=n/\bA wr w.heap.size 5 (b.size+8) (fun i=>if i<n then jS b i else Y[i]?.getD undef)/\O w wr);case atStart=>exact⟨b.size,rfl,by omega,by omega,k,s⟩
 case round=>
  obtain⟨n,rfl,R,J,a,q⟩:=hrel;by_cases G:n=b.size+8
  ·have B:¬((n:Int)<(b.size:Int)+8):=(by omega);have I:=hide (show bA wr w.heap.size 5 (b.size+8) (jS b)/\O w wr from⟨a.congr (fun i hi=>by rw[aA (by omega)]),q⟩);go_wp2_with fail;go_ret;exact⟨rfl,I.o⟩
  ·have B:((n:Int)<(b.size:Int)+8):=(by omega);have N:(0:Int)<=(n:Int):=(by omega);have d:=hide (show bA (wr.setCell (U w.heap.size n) (.int .u8 201)) w.heap.size 5 (b.size+8) (fun i=>if i<n+1 then jS b i else Y[i]?.getD undef)/\O w (wr.setCell (U w.heap.size n) (.int .u8 201)) from⟨by
    refine(a.set n (.int .u8 201)).congr fun i _=> ?_;by_cases f:i=n
    ·subst f;simp[jS,show¬i<b.size by omega]
    ·by_cases F:i<n
     ·simp[f,F,show i<n+1 by omega]
     ·simp[f,F,show¬i<n+1 by omega],q.aZ (aS _) _⟩)
   have A:=a.cell n (by omega);have K:=a.free n;go_wp2_with fail;go_roundg (gk-1);case measure=>omega
   case rel=>exact⟨n+1,rfl,by omega,by omega,d.o.1,d.o.2⟩
def strOf (out:aD):bY:=strOfNums (out.map (fun x:Nat=>(x:Int)))
def qO {W:aH}{out:aD}(h:W.ownsRow base 5 1 v out.length (jR out)):(convert 31 9 v).run prog W= .ok (.string (strOf out)) W:=by
 have d:=h;obtain⟨_,⟨a,hn⟩|⟨g,cap,c,a,_⟩⟩:=h
 ·rw[a,kP hn];exact run_convert_bytes_nil W 31 5 underlying31 underlying5 0 0 9 underlying9
 ·subst a;exact P6 W 31 5 underlying31 underlying5 g 0 out.length cap (out.map (fun x:Nat=>(x:Int))) (by simp) (fun j b=>by
   have f:=d.cellAt j (by omega);rw[dS,f,qM _ _ b];simp[List.getD,kE,bV b]) 9 underlying9
def al0 (e used b1 b2:Nat)(v1 a:aK)(out:aD)(s:bY)(w:aH)(b:w.ownsRow b1 5 1 v1 out.length (jR out))(c:w.ownsRow b2 5 1 a out.length (jR out)):Calls prog 69 #[.agg #[V e,v1,V used, .string s], .agg #[V e,a,V used, .string s]] w fun r w'=>r= .returned (.bool true)/\O w w':=by have k1:∀o1 o2,(convert 31 9 v1).run prog ((w.alloc o1).alloc o2)= .ok (.string (strOf out)) ((w.alloc o1).alloc o2):=fun o1 o2=>qO ((b.alloc o1).alloc o2);have k2:∀o1 o2,(convert 31 9 a).run prog ((w.alloc o1).alloc o2)= .ok (.string (strOf out)) ((w.alloc o1).alloc o2):=fun o1 o2=>qO ((c.alloc o1).alloc o2);generalize strOf out=d at*;clear b c;go_enter func69,ntmps69;go_wp2_with fail;go_ret;exact⟨rfl,((aU _ _).alloc _).alloc _⟩
def wR (m i:Nat):Nat:=(m+i*(1+m/256))%256
def TP (m i:Nat)(w:aH)(b:m<=281474976710656):Calls prog 73 #[V m,V i] w fun r w'=>r= .returned (.int .u8 (wR m i:Nat))/\w'=w:=by
 have a:=hide (show wrap64 ((m:Int)+wrap64 ((i:Int)*(1+(m:Int)/256)))%256=(wR m i:Nat) from by
  unfold wR;have e:(i:Int)*(1+(m:Int)/256)=((i*(1+m/256):Nat):Int):=by simp
  rw[e];generalize i*(1+m/256)=p;unfold wrap64;omega)
 go_enter func73,ntmps73;go_wp2_with fail;go_ret;exact⟨by rw[a.o];rfl,rfl⟩
structure KZ (w:aH)(h:Nat)(v:aK)(n m:Nat):Prop where
 blk:w.heap[h]? =some (.cells #[v,V (m:Nat)] 116 (0,0))
 form:(v= .slice none 0 0/\n=0)\/∃g cap,v= .slice (some (U g 0)) n cap/\∀i,i<n->w.cell? (U g i)=some (.int .u8 (wR m i:Nat))
 small:n<=281474976710656
 mark:m<=281474976710656
def U8 {a:Addr}(h:w.cell? a=some v)(n:Nat):(w.drewN n).cell? a=some v:=by simpa using h
def Tc (h n m:Nat)(v:aK)(w:aH)(hh:KZ w h v n m):Calls prog 48 #[E h] w fun r w'=>r= .returned (.bool true)/\O w w':=by
 have q:=hh.mark;have hn:=hh.small;have c:w.cell? (U h 0)=some v:=aC hh.blk 0 _ rfl;have c1:w.cell? (U h 1)=some (V m):=aC hh.blk 1 _ rfl;have o:=hh.form;rcases o with⟨rfl,rfl⟩|⟨g,cap,rfl,f⟩
 ·go_enter func48,ntmps48;go_wp2_with fail;go_loopg [3] 1 (fun g i wr=>i=V 0/\wr=w);case atStart=>exact⟨rfl,rfl⟩
  case round=>
   obtain⟨rfl,rfl⟩:=hrel;go_wp2_with fail;go_ret;exact⟨rfl,aU _ _⟩
 ·go_enter func48,ntmps48;go_wp2_with fail;go_loopg [3] n (fun k i wr=>∃j d:Nat,i=V j/\k+j=n/\wr=w.drewN d);case atStart=>exact⟨0,0,rfl,by omega,rfl⟩
  case round=>
   obtain⟨j,d,rfl,hk,rfl⟩:=hrel;have s:=U8 c d;have t:=U8 c1 d;by_cases b:j=n
   ·have a:¬((j:Int)<(n:Int)):=(by omega);go_wp2_with fail;go_ret;exact⟨rfl,(aU _ _).drewN _⟩
   ·have a:(j:Int)<(n:Int):=(by omega);have p:(0:Int)<=(j:Int):=(by omega);have l:=f j (by omega);go_wp2_with fail
    go_region_held3 (fun w'=>w'.cell? (U h 0)=some (.slice (some (U g 0)) n cap)/\w'.cell? (U h 1)=some (V m)/\w'.cell? (U g j)=some (.int .u8 (wR m j:Nat))) (go_keep)
     (first|(go_at_call 73;apply(TP m j _ q).mono;rintro e w8 ⟨rfl,rfl⟩))
    all_goals
     go_wp2_with fail;go_roundg (gk-1);case measure=>omega
     case rel=>exact⟨j+1,d+1,rfl,by omega,rfl⟩
def KZ.step0 (hh:KZ w h v n m)(hs:O w w'):KZ w' h v n m:=⟨hs.at_ hh.blk (fun x=>x),hh.form.imp (fun x=>x) (fun⟨g,cap,b,a⟩=>⟨g,cap,b,fun i hi=>hs.cell (a i hi) (fun x=>x)⟩),hh.small,hh.mark⟩
structure ah2 (w:aH)(wb gh nh cap:Nat):Prop where
 cell:w.cell? (U wb 1)=some (.slice (some (U gh 0)) nh cap)
 all:∀i,i<nh->∃hp v n m,w.cell? (U gh i)=some (E hp)/\KZ w hp v n m
 small:nh<=281474976710656
def Zu (wb q b cap:Nat)(w:aH)(hh:ah2 w wb q b cap):Calls prog 33 #[E wb] w fun r w'=>r= .returned (.bool true)/\O w w':=by
 have hn:=hh.small;go_enter func33,ntmps33;go_wp2_with fail;go_loopg [3] b (fun k i wr=>∃j:Nat,i=V j/\k+j=b/\O w wr);case atStart=>exact⟨0,rfl,by omega,aU _ _⟩
 case round=>
  obtain⟨j,rfl,hk,a⟩:=hrel;have c1:=a.cell hh.cell (fun x=>x);by_cases l:j=b
  ·have d:¬((j:Int)<(b:Int)):=(by omega);go_wp2_with fail;go_ret;exact⟨rfl,a⟩
  ·have d:(j:Int)<(b:Int):=(by omega);have u:(0:Int)<=(j:Int):=(by omega);obtain⟨hp,v,n,m,s,hold⟩:=hh.all j (by omega);have t:=a.cell s (fun x=>x);have p:=hide (Tc hp n m v wr (hold.step0 a));go_wp2_with fail;apply p.o.mono;rintro r w1 ⟨rfl,f⟩;have c:=hide (a.trans f);go_wp2_with fail;go_roundg (gk-1);case measure=>omega
   case rel=>exact⟨j+1,rfl,by omega,c.o⟩
end Go.Proofs.YtbpahojchgpdnaaGreatDoor
namespace Go.dM
open Go Go.RowKit
variable {base cap e g h m n wb:Nat} {ps v vb:aK} {w w' w0 w1 wr:aH} {xs:List aK}
def ac4 {bytes:Nat}(c:bytes<=8)(hn:n*bytes<=220000000000000):Builtin.nextslicecap (n+1) n*bytes<=281474976710656:=by
 have h:Builtin.nextslicecap (n+1) n<=n+n/4+512:=by
  unfold Builtin.nextslicecap;split
  ·omega
  ·split
   ·omega
   ·rw[growBy_four,aB (by omega),aA (by omega)];omega
 have a:Builtin.nextslicecap (n+1) n*bytes<=(n+n/4+512)*bytes:=mZ _ h;have b:(n/4)*bytes*4<=n*bytes:=by
  rw[Nat.mul_right_comm];exact mZ _ (by omega)
 rw[wO,wO]at a;omega
def pX {P:Program}(w:aH){M:Array Oper}{rest:List Oper}{o:Oper}{a:Act}{Q:Exit->Act->aH->Prop}(hg:o.guard=none)(s x:Operand)(t:TypeId)(C:o.op=Op.call { callee:=Callee.builtin Builtin.append,args:=#[s,x],argTypes:=#[t,t] })(base:Nat)(e:TypeId)(i:TypeInfo)(z:aK)(bytes:Nat)(T:P.underlying t=some (.slice e))(X:P.info? e=some i)(h3:i.zero=some z)(N:i.size=1)(h5:i.bytes=bytes)(h6:z.cells.size=1)(v:aK)(n:Nat)(xs:List aK)(hs:a.eval s=v)(r:w.ownsRow base e 1 v n xs)(G:Addr)(c:Nat)(u:aK)(hx:a.eval x= .slice (some G) 1 c)(hc:w.cell? G=some u)(W:u.oneCell'=true)(hb:bytes<=8)(b2:n*bytes<=220000000000000)(aa:0<bytes)(f:base<=w.heap.size)(Y:∀g cap w',w'.ownsRow base e 1 (.slice (some (U g 0)) (n+1) cap) (n+1) (xs++[u])->((v.ownBlock=some g/\w.grownBy w' (some g))\/(w.heap.size<=g/\w.grownBy w' none))->wpList P M Q rest (a.put o.dst (.slice (some (U g 0)) (n+1) cap)) w'):wpList P M Q (o::rest) a w:=by
 have ag:n<=n*bytes:=Nat.le_mul_of_pos_right n aa;have p:n+1<=maxLen:=by unfold maxLen;omega
 have A:∀j y,[u][j]? =some y->w.cell? (G.add j)=some y:=by
  intro j y R;match j,R with
  |0,R=>simp at R;subst R;simpa[Addr.add]using hc
 have q:∀y∈[u],y.oneCell'=true:=by intro y hy;simp at hy;subst hy;exact W
 have l:=r;obtain⟨I,⟨hv,ac⟩|⟨g,cap,S,hv,af,hh,ah,ae,ai,aj⟩⟩:=r
 ·subst ac;refine wpList_append_grows w hg s x t C e i z 1 bytes T X h3 N h5 h6 (by decide) none 0 0 xs (hs.trans hv) (fun _=>⟨rfl,rfl⟩) I (fun b hb=>by cases hb) G 1 c [u] hx rfl A q (by omega) p (by omega) ?_;intro v' w' J B;obtain⟨g,d,F⟩:∃g d,v'= .slice (some (U g 0)) (0+1) d:=by
   obtain⟨_,⟨_,hz⟩|⟨g,d,S,F,_⟩⟩:=J
   ·omega
   ·exact⟨g,d,F⟩
  subst F;exact Y g d w' (bH J f) (.inr ⟨(J.lt g rfl).1,B⟩)
 ·subst hv;by_cases D:n+1<=cap
  ·exact PD w hg s x t C base e i 1 T X N g n cap xs hs l G 1 c [u] hx rfl A q D fun w' J B=>Y g cap w' J (.inl ⟨rfl,B⟩)
  ·obtain rfl:cap=n:=by omega
   refine wpList_plain hg fun K Z=> ?_;have H:grownCap w (cap+1) cap e<=maxLen:=I5 w (cap+1) cap e p;have ab:=grownCap_ge w (cap+1) cap e;have L:=run_append_grow (P:=P) w t o.type e i z T X h3 (U g 0) cap cap xs (by rw[N];exact I) (l.cells rfl) G 1 c [u] (by rw[N];rfl) A (by omega) (by omega) (by rw[h5];exact ac4 hb b2);unfold Oper.wp;simp[execOp,C,resolve,invoke,builtin,hs,hx,L,Result.andThen];refine Z _ _ (Y _ _ _ ⟨?_, .inr ⟨w.heap.size,_,_,rfl,f,aR w.drew _,ab,H,?_,?_⟩⟩ (.inr ⟨aS _,⟨rfl,rfl,rfl,by simp,fun k hk _=>dG _ _ _ hk⟩⟩))
   ·simp[I]
   ·simp only[zJ,xD,size_zeroCells,h6,aN,I,oH];omega
   ·simp only[Array.toList_append,dB];rw[<-dB,show(cap+1)*1=(xs++[u]).length by simp[I]];exact List.take_left
end Go.dM
namespace Go.Proofs.YtbpahojchgpdnaaGreatDoor
open Go.RowKit Go.dM Go.Proofs.Tryz
variable {base cap e g h m n wb:Nat} {ps v vb:aK} {w w' w0 w1 wr:aH} {xs:List aK}
def signs (m n:Nat):List aK:=(List.range n).map fun i=> .int .u8 (wR m i:Nat)
def JU (m n:Nat):(signs m n).length=n:=by simp[signs]
def QY (m n:Nat):signs m (n+1)=signs m n++[.int .u8 (wR m n:Nat)]:=by simp[signs,FZ]
def WS (m n i:Nat)(hi:i<n):(signs m n)[i]? =some (.int .u8 (wR m i:Nat)):=by simp[signs,hi]
structure Hd where
 hp:Nat
 v:aK
 n:Nat
 m:Nat
structure HB (w:aH)(q:Hd):Prop where
 hold:KZ w q.hp q.v q.n q.m
 row:∀k,q.v.ownBlock=some k->∃cur,w.heap[k]? =some (.cells cur 5 (0,0))
def N8 (blk:w.heap[h]? =some (.cells #[v,V m] 116 (0,0)))(own:w.ownsRow base 5 1 v n (signs m n))(hn:n<=281474976710656)(d:m<=281474976710656):HB w ⟨h,v,n,m⟩:=by
 have a:=own;obtain⟨_,⟨b,f⟩|⟨g,cap,c,b,_,hh,_⟩⟩:=own
 ·exact⟨⟨blk, .inl ⟨b,f⟩,hn,d⟩,fun k hk=>by dsimp only at hk;rw[b]at hk;cases hk⟩
 ·refine⟨⟨blk, .inr ⟨g,cap,b,fun i hi=> ?_⟩,hn,d⟩,fun k hk=> ?_⟩
  ·dsimp only at hi;rw[b]at a;rw[a.cellAt i (by omega),WS m n i hi]
  ·dsimp only at hk;rw[b]at hk;cases hk;exact⟨c,hh⟩
def HB.step {S:Nat->Prop}{q:Hd}(h:HB w q)(hs:Step S w w')(d:¬S q.hp)(c:∀k,q.v.ownBlock=some k->¬S k):HB w' q:=
 ⟨⟨hs.at_ h.hold.blk d,h.hold.form.imp (fun x=>x) (fun⟨g,cap,e,b⟩=>⟨g,cap,e,fun i hi=>hs.cell (b i hi) (c g (by rw[e];rfl))⟩),h.hold.small,h.hold.mark⟩,
  fun k hk=>by obtain⟨a,b⟩:=h.row k hk;exact⟨a,hs.at_ b (c k hk)⟩⟩
def HB.step0 {q:Hd}(h:HB w q)(hs:O w w'):HB w' q:=h.step hs (fun x=>x) (fun _ _ x=>x)
def HB.lt {q:Hd}(h:HB w q){k:Nat}(hk:q.v.ownBlock=some k):k<w.heap.size:=by obtain⟨a,b⟩:=h.row k hk;exact aO b
def own_ne {A:Array aK}(blk:w.heap[h]? =some (.cells A 116 (0,0)))(own:w.ownsRow base 5 1 v n xs):v.ownBlock≠some h:=fun e=>by
 obtain⟨_,⟨a,_⟩|⟨g,cap,b,a,_,hh,_⟩⟩:=own
 ·rw[a]at e;cases e
 ·rw[a]at e
  cases e
  rw[hh]at blk
  cases blk
def Keeps (w w':aH)(v:aK)(n m:Nat):Prop:=
 ∀q,HB w q->(∀k,v.ownBlock=some k->q.v.ownBlock=some k->q.m=m/\q.n<=n)->HB w' q
def a07 {l:Nat}(own:w.ownsRow base 5 1 v n xs)(t:v.ownBlock=some g)(a:w'.ownsRow base 5 1 (.slice (some (U g 0)) l cap) l (signs m l))(hn:n<=l)(hs:Step (fun k=>k=g) w w'):Keeps w w' v n m:=by
 intro q hh u;have r:q.hp≠g:=fun e=>own_ne hh.hold.blk own (by rw[t,e]);refine⟨⟨hs.at_ hh.hold.blk (fun e=>r e),hh.hold.form.imp (fun x=>x) (fun⟨k,c,e,o⟩=>⟨k,c,e,fun i hi=> ?cells⟩),hh.hold.small,hh.hold.mark⟩,fun k hk=> ?rows⟩;case cells=>
  by_cases hk:k=g
  ·subst hk;obtain⟨A,z⟩:=u k t (by rw[e];rfl);rw[a.cellAt i (by omega),WS _ _ i (by omega),A]
  ·exact hs.cell (o i hi) (fun y=>hk y)
 case rows=>
  by_cases j:k=g
  ·subst j;obtain⟨_,⟨d,_⟩|⟨B,s,b,d,_,p,_⟩⟩:=a
   ·cases d
   ·cases d;exact⟨b,p⟩
  ·obtain⟨b,f⟩:=hh.row k hk;exact⟨b,hs.at_ f (fun y=>j y)⟩
def Keeps.ab5 (hs:O w w'):Keeps w w' v n m:=fun _ hh _=>hh.step0 hs
def Moves (w:aH)(v v':aK):Prop:=v'.ownBlock=v.ownBlock\/∀k,v'.ownBlock=some k->w.heap.size<=k
def ae8 (w:aH)(A B:Obj):((w.alloc A).alloc B).heap[w.heap.size+1]? =some B:=by have h:=aR (w.alloc A) B;rwa[show(w.alloc A).heap.size=w.heap.size+1 by simp]at h
def Vy (w:aH)(A B:Obj):((w.alloc A).alloc B).heap[w.heap.size]? =some A:=(dG _ _ _ (by simp)).trans (aR w A)
def Iy (own:w.ownsRow base 5 1 v n (signs m n))(p:O w w0)(q:w0.heap[w.heap.size]? =some (.cells #[.slice none 0 0,V m] 116 (0,0)))(f:w1.ownsRow base 5 1 (.slice (some (U g 0)) (n+1) cap) (n+1) (signs m n++[.int .u8 (wR m n:Nat)]))(j:(v.ownBlock=some g/\w0.grownBy w1 (some g))\/(w0.heap.size<=g/\w0.grownBy w1 none))(hn:n<281474976710656)(s:m<=281474976710656):w1.heap[w.heap.size]? =some (.cells #[.slice none 0 0,V m] 116 (0,0))/\∀w',w'=w1.setCell (U w.heap.size 0) (.slice (some (U g 0)) (n+1) cap)->HB w' ⟨w.heap.size, .slice (some (U g 0)) (n+1) cap,n+1,m⟩/\w'.ownsRow base 5 1 (.slice (some (U g 0)) (n+1) cap) (n+1) (signs m (n+1))/\Moves w v (.slice (some (U g 0)) (n+1) cap)/\Keeps w w' v n m/\Step (fun k=>v.ownBlock=some k) w w':=by
 have l:=aO q;have o:g≠w.heap.size:=by
  rcases j with⟨b,_⟩|⟨b,_⟩
  ·have:=(own.lt g b).2;omega
  ·omega
 have i:w1.heap[w.heap.size]? =some (.cells #[.slice none 0 0,V m] 116 (0,0)):=by
  rcases j with⟨b,c⟩|⟨b,c⟩
  ·rw[c.block _ l (fun e=>o (by simpa using e.symm)),q]
  ·rw[c.block _ l (by simp),q]
 refine⟨i,?_⟩;rintro w' rfl;rw[<-QY]at f;have d:=mI f (a:=(U w.heap.size 0)) (by simpa[Value.ownBlock]using o) (.slice (some (U g 0)) (n+1) cap);have r:=aV i 0 (.slice (some (U g 0)) (n+1) cap);refine⟨N8 (by simpa using r) d (by omega) s,d,?_,?_,?_⟩
 ·rcases j with⟨b,_⟩|⟨b,_⟩
  ·exact .inl (by rw[b];rfl)
  ·refine .inr fun k hk=> ?_;cases hk;exact bB (by omega) b
 ·rcases j with⟨b,c⟩|⟨b,c⟩
  ·exact a07 own b d (by omega) ((((p.mono (fun _ x=>x.elim)).grown c (fun k e=> .inl (by simpa using e.symm)))).aZ (aS _) _)
  ·exact Keeps.ab5 ((p.grown c (fun k e=>by cases e)).aZ (aS _) _)
 ·rcases j with⟨b,c⟩|⟨b,c⟩
  ·exact(((p.mono (fun _ x=>x.elim)).grown c (fun k e=> .inl (by rw[b,e])))).aZ (aS _) _
  ·exact((p.mono (fun _ x=>x.elim)).grown c (fun k e=>by cases e)).aZ (aS _) _
def Vn (h base n m:Nat)(v:aK)(w:aH)(hh:HB w ⟨h,v,n,m⟩)(own:w.ownsRow base 5 1 v n (signs m n))(F:base<=w.heap.size)(hn:n<=140737488355328):Calls prog 116 #[E h] w fun r w'=>∃hp q,r= .returned (E hp)/\w.heap.size<=hp/\HB w' ⟨hp,q,n+1,m⟩/\w'.ownsRow base 5 1 q (n+1) (signs m (n+1))/\Moves w v q/\Keeps w w' v n m/\Step (fun k=>v.ownBlock=some k) w w':=by
 have s:=hh.hold.mark;obtain⟨C,hi,l,o,p⟩:=eD info5;have y:w.cell? (U h 0)=some v:=aC hh.hold.blk 0 _ rfl;have c1:w.cell? (U h 1)=some (V m):=aC hh.hold.blk 1 _ rfl;have i:=hh.hold.blk;obtain⟨a,c,d⟩:∃a c,v= .slice a n c:=by
  obtain⟨_,⟨d,B⟩|⟨g,cap,_,d,_⟩⟩:=own
  ·exact⟨none,0,by rw[d,B]⟩
  ·exact⟨_,_,d⟩
 rw[d]at y;have z:=aO i;go_enter func116,ntmps116;go_wp2_with fail
 go_region_held3 (fun w'=>w'.cell? (U h 0)=some (.slice a n c)/\w'.cell? (U h 1)=some (V m)) (go_keep)
  (first|(go_at_call 73;apply(TP m n _ s).mono;rintro e w8 ⟨rfl,rfl⟩))
 all_goals
  rw[d]at own;go_wp2_with (at_builtin;refine pX _ rfl _ _ 31 rfl base 5 C (.int .u8 0) 1 underlying31 hi l o p rfl _ n (signs m n) rfl (by exact(own.alloc _).alloc _) ⟨w.heap.size+1,0,none⟩ 1 (.int .u8 (wR m n:Nat)) rfl ?c1 rfl (by decide) ?c4 (by decide) ?c5 ?_);case c1=>exact jO (w:=(w.alloc (.cells #[.slice none 0 0,V m] 116)).alloc (.cells #[.int .u8 (wR m n:Nat)] 5)) (ae8 _ _ _)
  case c4=>omega
  case c5=>simp;omega
  intro g cap w1 b j;obtain⟨f,A⟩:=Iy own ((((aU (fun _=>False) w).alloc (.cells #[.slice none 0 0,V m] 116)).alloc (.cells #[.int .u8 (wR m n:Nat)] 5)).drew) (Vy _ _ _) b (by simpa using j) (by omega) s;have G:=aC f 0 _ rfl;have H:=aJ f 0;go_wp2_with fail;go_ret;obtain⟨r1,D,t,u,x⟩:=A _ rfl;rw[<-d]at t u x;exact⟨_,_,rfl,aS _,r1,D,t,u,x⟩
def XZ (q:Hd):aK:=(E q.hp)
structure xZ (w:aH)(base wb:Nat)(ps v:aK)(hs:List Hd)(F:Nat->Prop):Prop where
 blk:w.heap[wb]? =some (.cells #[ps,v] 70 (0,0))
 own:w.ownsRow base 89 1 v hs.length (hs.map XZ)
 each:∀q∈hs,HB w q/\∀k,q.v.ownBlock=some k->F k
def gM {t:Nat}{A:Array aK}(blk:w.heap[h]? =some (.cells A t (0,0)))(own:w.ownsRow base e 1 v n xs)(c:t≠e):v.ownBlock≠some h:=fun x=>by
 obtain⟨_,⟨a,_⟩|⟨g,cap,b,a,_,hh,_⟩⟩:=own
 ·rw[a]at x;cases x
 ·rw[a]at x
  cases x
  rw[hh]at blk
  cases blk
  exact c rfl
def nN {k:Nat}(own:w.ownsRow base e 1 v n xs)(hk:v.ownBlock=some k):∃a,w.heap[k]? =some (.cells a e (0,0)):=by
 obtain⟨_,⟨b,_⟩|⟨g,cap,a,b,_,hh,_⟩⟩:=own
 ·rw[b]at hk;cases hk
 ·rw[b]at hk;cases hk;exact⟨a,hh⟩
def eX {S:Nat->Prop}(own:w.ownsRow base e 1 v n xs)(hs:Step S w w')(hn:∀k,v.ownBlock=some k->¬S k):w'.ownsRow base e 1 v n xs:=bX own fun k hk=>hs.block k (own.lt k hk).2 (hn k hk)
def xZ.mono {hs:List Hd}{F a:Nat->Prop}(K:xZ w base wb ps v hs F)(h:∀k,F k->a k):xZ w base wb ps v hs a:=⟨K.blk,K.own,fun q b=>⟨(K.each q b).1,fun k hk=>h k ((K.each q b).2 k hk)⟩⟩
def xZ.step0 {hs:List Hd}{F:Nat->Prop}(K:xZ w base wb ps v hs F)(h:O w w'):xZ w' base wb ps v hs F:=⟨h.at_ K.blk (fun x=>x),eX K.own h (fun _ _ x=>x),fun q a=>⟨(K.each q a).1.step0 h,(K.each q a).2⟩⟩
def xZ.row {a:Nat}{ys:List aK}{hs:List Hd}{F:Nat->Prop}(K:xZ w base wb ps v hs F)(own:w.ownsRow a 5 1 vb n ys)(h:Step (fun k=>vb.ownBlock=some k) w w')(f:∀q∈hs,HB w' q):xZ w' base wb ps v hs F:=⟨h.at_ K.blk (fun x=>gM K.blk own (by decide) x),eX K.own h (fun k hk x=>by obtain⟨c,d⟩:=nN K.own hk;exact gM d own (by decide) x),fun q b=>⟨f q b,(K.each q b).2⟩⟩
def xZ.app {hs:List Hd}{F:Nat->Prop}{q:Hd}(K:xZ w base wb ps v hs F)(i:O w w0)(c:w1.ownsRow base 89 1 (.slice (some (U g 0)) (hs.length+1) cap) (hs.length+1) (hs.map XZ++[XZ q]))(o:(v.ownBlock=some g/\w0.grownBy w1 (some g))\/(w0.heap.size<=g/\w0.grownBy w1 none))(z:HB w q)(y:∀k,q.v.ownBlock=some k->F k):w1.heap[wb]? =some (.cells #[ps,v] 70 (0,0))/\∀w',w'=w1.setCell (U wb 1) (.slice (some (U g 0)) (hs.length+1) cap)->xZ w' base wb ps (.slice (some (U g 0)) (hs.length+1) cap) (hs++[q]) F/\(v.ownBlock=some g\/w.heap.size<=g)/\Step (fun k=>k=wb\/v.ownBlock=some k) w w':=by
 have r:Step (fun k=>k=wb\/v.ownBlock=some k) w w1:=by
  rcases o with⟨b,d⟩|⟨b,d⟩
  ·exact(i.mono (fun _ x=>x.elim)).grown d (fun k e=> .inl (.inr (by rw[b,e])))
  ·exact(i.mono (fun _ x=>x.elim)).grown d (fun k e=>by cases e)
 have s:Step (fun k=>v.ownBlock=some k) w w1:=by
  rcases o with⟨b,d⟩|⟨b,d⟩
  ·exact(i.mono (fun _ x=>x.elim)).grown d (fun k e=> .inl (by rw[b,e]))
  ·exact(i.mono (fun _ x=>x.elim)).grown d (fun k e=>by cases e)
 have f:=s.at_ K.blk (fun x=>gM K.blk K.own (by decide) x);refine⟨f,?_⟩;rintro w' rfl;have t:=r.setCell (p:=(U wb 1)) (.inl rfl) (.slice (some (U g 0)) (hs.length+1) cap);have j:=aV f 1 (.slice (some (U g 0)) (hs.length+1) cap);have keep:∀p,HB w p->HB (w1.setCell (U wb 1) (.slice (some (U g 0)) (hs.length+1) cap)) p:=fun p hp=>by
  refine hp.step t ?_ ?_
  ·rintro(x|x)
   ·have:=hp.hold.blk;rw[x,K.blk]at this;cases this
   ·exact gM hp.hold.blk K.own (by decide) x
  ·intro k hk;obtain⟨u,l⟩:=hp.row k hk;rintro(x|x)
   ·rw[x,K.blk]at l;cases l
   ·exact gM l K.own (by decide) x
 refine⟨⟨by simpa using j,?_,?_⟩,?_,t⟩
 ·have:=mI c (a:=(U wb 1)) (gM f c (by decide)) (.slice (some (U g 0)) (hs.length+1) cap);simpa using this
 ·intro p hp;rcases List.mem_append.mp hp with hp|hp
  ·exact⟨keep p (K.each p hp).1,(K.each p hp).2⟩
  ·obtain rfl:p=q:=by simpa using hp
   exact⟨keep p z,y⟩
 ·rcases o with⟨b,_⟩|⟨b,_⟩
  ·exact .inl b
  ·exact .inr (bB i.size b)
def KS (wb:Nat)(v vb:aK)(k:Nat):Prop:=vb.ownBlock=some k\/k=wb\/v.ownBlock=some k
def KF (w:aH)(F:Nat->Prop)(vb:aK)(k:Nat):Prop:=F k\/vb.ownBlock=some k\/w.heap.size<=k
structure EW (w wr:aH)(base wb:Nat)(ps v vb:aK)(n m:Nat)(F:Nat->Prop)(hp j:Nat)(v':aK)(hs':List Hd)(vq:aK):Prop where
 at_:xZ wr base wb ps v' hs' (KF w F vb)
 last:HB wr ⟨hp,vq,n+j,m⟩
 own:wr.ownsRow base 5 1 vq (n+j) (signs m (n+j))
 grp:∀q∈hs',∀k,vq.ownBlock=some k->q.v.ownBlock=some k->q.m=m/\q.n<=n+j
 mv:∀k,v'.ownBlock=some k->v.ownBlock=some k\/w.heap.size<=k
 mq:∀k,vq.ownBlock=some k->vb.ownBlock=some k\/w.heap.size<=k
 step:Step (KS wb v vb) w wr
def EW.start {F:Nat->Prop}{hs:List Hd}{ys:List aK}(K:xZ w base wb ps v hs F)(i:∀k,vb.ownBlock=some k->¬F k)(own:w.ownsRow base 5 1 vb n ys)(h:Step (fun k=>vb.ownBlock=some k) (w.alloc (.cells #[vb,V m] 116)) wr)(b:wr.ownsRow base 5 1 vb n (signs m n))(hn:n<=281474976710656)(p:m<=281474976710656):EW w wr base wb ps v vb n m F w.heap.size 0 v hs vb:=by
 have f:O w (w.alloc (.cells #[vb,V m] 116)):=(aU _ _).alloc _;have a:=eX own f (fun _ _ x=>x);have d:=K.step0 f;refine⟨(d.row a h (fun q c=> ?_)).mono (fun k x=> .inl x),?_,b,?_,fun k x=> .inl x,fun k x=> .inl x,?_⟩
 ·exact(d.each q c).1.step h (own_ne (d.each q c).1.hold.blk a) (fun k hk x=>i k x ((d.each q c).2 k hk))
 ·have j:=aR w (.cells #[vb,V m] 116);exact N8 (h.at_ j (own_ne j a)) b hn p
 ·exact fun q c k l o=>(i k l ((K.each q c).2 k o)).elim
 ·exact(f.mono (fun _ x=>x.elim)).trans (h.mono (fun k x=> .inl x))
def EW.longer {w2:aH}{hp j d:Nat}{s o l:aK}{F:Nat->Prop}{i:List Hd}(I:EW w wr base wb ps v vb n m F hp j s i o)(t:HB w2 ⟨d,l,n+j+1,m⟩)(u:w2.ownsRow base 5 1 l (n+j+1) (signs m (n+j+1)))(p:Moves wr o l)(y:Keeps wr w2 o (n+j) m)(r:Step (fun k=>o.ownBlock=some k) wr w2):EW w w2 base wb ps v vb n m F d (j+1) s i l:=by
 refine⟨I.at_.row I.own r (fun q f=>y q (I.at_.each q f).1 (I.grp q f)),t,u,?_,I.mv,?_,I.step.trans' r ?_⟩
 ·intro q f k hk c;rcases p with e|e
  ·obtain⟨a,b⟩:=I.grp q f k (e▸hk) c;exact⟨a,by omega⟩
  ·have:=e k hk;have:=(I.at_.each q f).1.lt c;omega
 ·intro k hk;rcases p with e|e
  ·exact I.mq k (e▸hk)
  ·exact .inr (bB I.step.size (e k hk))
 ·intro k hk x;rcases I.mq k x with e|e
  ·exact .inl e
  ·omega
def EW.app {hp j:Nat}{f b:aK}{F:Nat->Prop}{a:List Hd}(I:EW w wr base wb ps v vb n m F hp j f a b)(s:O wr w0)(d:w1.ownsRow base 89 1 (.slice (some (U g 0)) (a.length+1) cap) (a.length+1) (a.map XZ++[(E hp)]))(A:(f.ownBlock=some g/\w0.grownBy w1 (some g))\/(w0.heap.size<=g/\w0.grownBy w1 none)):w1.heap[wb]? =some (.cells #[ps,f] 70 (0,0))/\∀w',w'=w1.setCell (U wb 1) (.slice (some (U g 0)) (a.length+1) cap)->EW w w' base wb ps v vb n m F hp j (.slice (some (U g 0)) (a.length+1) cap) (a++[⟨hp,b,n+j,m⟩]) b:=by
 obtain⟨z,C⟩:=I.at_.app (q:=⟨hp,b,n+j,m⟩) s d A I.last (fun k hk=> .inr (I.mq k hk));refine⟨z,fun w' e=> ?_⟩;obtain⟨K,l,p⟩:=C w' e;have o:∀k,b.ownBlock=some k->¬(k=wb\/f.ownBlock=some k):=fun k hk=>by
  obtain⟨r,i⟩:=nN I.own hk;rintro(x|x)
  ·rw[x,I.at_.blk]at i;cases i
  ·exact gM i I.at_.own (by decide) x
 have B:=(K.each ⟨hp,b,n+j,m⟩ (by simp)).1;refine⟨K,B,eX I.own p o,?_,?_,I.mq,I.step.trans' p ?_⟩
 ·intro q c k t u;rcases List.mem_append.mp c with c|c
  ·exact I.grp q c k t u
  ·obtain rfl:q=⟨hp,b,n+j,m⟩:=by simpa using c
   exact⟨rfl,aS _⟩
 ·intro k hk;cases hk;rcases l with x|x
  ·exact I.mv g x
  ·exact .inr (bB I.step.size x)
 ·rintro k hk (x|x)
  ·exact .inr (.inl x)
  ·rcases I.mv k x with y|y
   ·exact .inr (.inr y)
   ·omega
def info89:(prog.info? 89).map (fun i=>(i.zero,i.size,i.bytes))=some (some (.pointer none),1,8):=by kernel_rfl
def signed (m i:Nat)(ys:List aK):List aK:=signs m i++ys.drop i
def Nk (m i n:Nat)(ys:List aK)(a:ys.length=n)(hi:i<n):(signed m i ys).set i (.int .u8 (wR m i:Nat))=signed m (i+1) ys:=by unfold signed;rw[QY,JB (h:=by rw[JU];omega),JU,uL,List.drop_eq_getElem_cons (by omega),dB];rfl
def Fv (m:Nat)(ys:List aK):signed m 0 ys=ys:=by simp[signed,signs]
def Ky (m n:Nat)(ys:List aK)(a:ys.length=n):signed m n ys=signs m n:=by unfold signed;rw[List.drop_eq_nil_of_le (by omega),bG]
def ne_of_lt' {N c:Nat}(h:g<N)(x:(Value.slice (some (U g 0)) n c).ownBlock=some N):False:=by simp only[Value.ownBlock,fH]at x;omega
def zM (base wb n:Nat)(ps v vb:aK)(hs:List Hd)(F:Nat->Prop)(ys:List aK)(w:aH)(K:xZ w base wb ps v hs F)(hF:∀k,vb.ownBlock=some k->¬F k)(own:w.ownsRow base 5 1 vb n ys)(hb:base<=w.heap.size)(hn:n<=140737488355000)(hl:hs.length<=25000000000000):Calls prog 70 #[E wb,vb] w fun r w'=>r= .returned (.tuple #[])/\∃M d,xZ w' base wb ps M d (KF w F vb)/\d.length=hs.length+4/\(∀k,M.ownBlock=some k->v.ownBlock=some k\/w.heap.size<=k)/\Step (KS wb v vb) w w':=by
 obtain⟨i0,hi,Y,Z,aa⟩:=eD info89;have H:∀{W:aH} {e n:Nat} {u:aK} {xs:List aK},W.ownsRow base e 1 u n xs->∃a c,u= .slice a n c:=by
  intro W e n u xs h;obtain⟨_,⟨q,hz⟩|⟨g,cap,_,q,_⟩⟩:=h
  ·exact⟨none,0,by rw[q,hz]⟩
  ·exact⟨_,_,q⟩
 obtain⟨av,cv,q⟩:=H K.own;obtain⟨L,P,G⟩:=H own;have c1:w.cell? (U wb 1)=some (.slice av hs.length cv):=by rw[<-q];exact aC K.blk 1 _ rfl
 have HK:=hide K;have HO:=hide own;have ao:=hide G;have X:ys.length=n:=by have:=own.1;omega
 have e:=G;clear G;subst e;obtain⟨m,hm⟩:∃m:Nat,(m:Int)=(hs.length:Int)+1:=⟨hs.length+1,by simp⟩
 have T:m<=281474976710656:=by omega
 obtain⟨w1,p⟩:=aP (w.alloc (.cells #[.slice L n P,V m] 116));have ah:w1.heap[w.heap.size]? =some (.cells #[.slice L n P,V m] 116 (0,0)):=by rw[p];exact aR w _
 have ag:O w w1:=by rw[p];exact(aU _ _).alloc _
 have ac:=hide ag;go_enter func70,ntmps70;go_wp2_with fail;rw[<-hm,<-p];have HM:=hide hm;have ae:=hide p;clear hm p;go_loopg [5] n (fun k i wr=>∃j:Nat,i=V j/\k+j=n/\wr.ownsRow base 5 1 (.slice L n P) n (signed m j ys)/\Step (fun k=>(Value.slice L n P).ownBlock=some k) w1 wr);case atStart=>exact⟨0,rfl,by omega,by rw[Fv];exact eX HO.o ac.o (fun _ _ x=>x),aU _ _⟩
 case round=>
  obtain⟨j,rfl,hk,b,l⟩:=hrel;by_cases Q:j=n
  ·have al:¬((j:Int)<(n:Int)):=(by omega);subst Q;have s:=EW.start HK.o hF HO.o (m:=m) (by rw[ae.o]at l;exact l) (by rw[Ky m j ys X]at b;exact b) (by omega) T;rw[q]at s;have cw:wr.cell? (U wb 1)=some (.slice av hs.length cv):=aC s.at_.blk 1 _ rfl;have ar:base<=wr.heap.size:=bB hb s.step.size;clear b l;go_wp2_with (at_builtin;refine pX _ rfl _ _ 68 rfl base 89 i0 (.pointer none) 8 underlying68 hi Y Z aa rfl _ hs.length (hs.map XZ) rfl (by exact(s.at_.own).alloc _) (U wr.heap.size 0) 1 (E w.heap.size) rfl (jO (aR wr _)) rfl (by decide) ?c4 (by decide) ?c5 ?_);case c4=>omega
   case c5=>omega
   intro g1 am w2 A R;obtain⟨f,hw⟩:=s.app ((aU (fun _=>False) wr).alloc (.cells #[E w.heap.size] 89)) A (by simpa using R);have k0:=aC f 1 _ rfl;have kf:=aJ f 1;have HW:=hide (hw _ rfl);go_wp2_with fail;go_loopg [6,7] 3 (fun k u6 u7 wx=>∃(t hp:Nat) (M:aK) (d:List Hd) (vq:aK),u6=(E hp)/\u7=V t/\k+t=3/\d.length=hs.length+1+t/\EW w wx base wb ps (.slice av hs.length cv) (.slice L j P) j m F hp t M d vq);case atStart=>exact⟨0,_,_,_,_,rfl,rfl,rfl,by simp,HW.o⟩
   case round=>
    obtain⟨t,hp,M,d,vq,rfl,rfl,ay,z,I⟩:=hrel;by_cases h3:t=3
    ·subst h3;have s:=hide I;go_wp2_with fail;go_end0;have I:=s;rw[<-q]at I;exact⟨rfl,M,d,I.at_,by omega,I.mv,I.step⟩
    ·have ax:(t:Int)<3:=(by omega);have ai:base<=wr.heap.size:=bB hb I.step.size;have HL:=hide (Vn hp base (j+t) m vq wr I.last I.own ai (by omega));have s:=hide I;go_wp2_with fail;apply HL.o.mono;rintro r w3 ⟨C,v2,rfl,_,l1,l2,l3,l4,l5⟩;have J:=s.longer l1 l2 l3 l4 l5;obtain⟨a2,c2,D⟩:=H J.at_.own;have ap:w3.cell? (U wb 1)=some (.slice a2 d.length c2):=(by rw[<-D];exact aC J.at_.blk 1 _ rfl);have aq:base<=w3.heap.size:=bB hb J.step.size;rw[D]at J;have N:=hide J;have y:=hide z;clear J l1 l2 l3 l4 l5 D HL z;go_wp2_with (at_builtin;refine pX _ rfl _ _ 68 rfl base 89 i0 (.pointer none) 8 underlying68 hi Y Z aa rfl _ d.length (d.map XZ) rfl (by exact(N.o.at_.own).alloc _) (U w3.heap.size 0) 1 (E C) rfl (jO (aR w3 _)) rfl (by decide) ?c4 (by decide) ?c5 ?_);case c4=>have:=y.o;omega
     case c5=>simp;omega
     intro g3 an w4 B S;obtain⟨f,hw⟩:=N.o.app ((aU (fun _=>False) w3).alloc (.cells #[E C] 89)) B (by simpa using S);have k0:=aC f 1 _ rfl;have kf:=aJ f 1;have af:=hide (hw _ rfl);go_wp2_with fail;go_roundg (gk-1);case measure=>omega
     case rel=>exact⟨t+1,C,_,_,_,rfl,rfl,by omega,by have:=y.o;simp;omega,af.o⟩
  ·have al:(j:Int)<(n:Int):=(by omega);have aw:(0:Int)<=(j:Int):=(by omega);obtain⟨g,rfl⟩:∃g,L=some (U g 0):=by
    obtain⟨_,⟨q,hz⟩|⟨g,cap,_,q,_⟩⟩:=b
    ·omega
    ·cases q;exact⟨g,rfl⟩
   have ak:g<w.heap.size:=(HO.o.lt g rfl).2;have cm:wr.cell? (U w.heap.size 1)=some (V m):=l.cell (aC ah 1 _ rfl) (fun x=>ne_of_lt' ak x);have aj:wr.cell? (U g j)=(signed m j ys)[j]? :=b.cellAt j (by omega);have az:(signed m j ys).length=n:=(by have:=b.1;omega);obtain⟨x,hx⟩:∃x,(signed m j ys)[j]? =some x:=⟨_,bV (by omega)⟩
   rw[hx]at aj;have au:wr.frozen? (U g j)=false:=b.frozenAt j;have HS:=hide (b.stored j (.int .u8 (wR m j:Nat)));have ad:=hide l;go_wp2_with fail;apply(TP m j _ T).mono;rintro e w8 ⟨rfl,rfl⟩;go_wp2_with fail;go_roundg (gk-1);case measure=>omega
   case rel=>
    obtain⟨s1,s2⟩:=HS.o;rw[Nk m j n ys X (by omega)]at s1;exact⟨j+1,rfl,by omega,s1,ad.o.grown s2 (fun k e=> .inl (by cases e;rfl))⟩
end Go.Proofs.YtbpahojchgpdnaaGreatDoor
