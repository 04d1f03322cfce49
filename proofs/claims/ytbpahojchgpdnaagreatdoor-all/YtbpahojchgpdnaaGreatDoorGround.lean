import Derived.WalkSpells
import Derived.WalkLawsBesides
import Derived.BigQuiet
import Derived.Test.YtbpahojchgpdnaaGreatDoorRows
import Derived.Deep.RegionHeld3
import Derived.Deep.WholeRow
set_option maxRecDepth 20000
set_option maxHeartbeats 4000000
set_option linter.all false
namespace Go.dM
open Go Go.RowKit
abbrev aN:=@List.length_append
abbrev aA:=@if_pos
abbrev aB:=@if_neg
abbrev aX:=@beq_eq_false_iff_ne
abbrev aR:=@heap_alloc_new
abbrev bV:=@List.getElem?_eq_getElem
abbrev aO:=@lt_of_block
abbrev aS:=@Nat.le_refl
abbrev aQ:=@And.intro
abbrev fZ:=@List.getElem?_eq_none
abbrev dQ:=@List.length_replicate
abbrev bG:=@List.append_nil
abbrev cZ:=@Below.heap_setCell
abbrev aY:=@bodyPost_ret
abbrev dB:=@List.append_assoc
abbrev bB:=@Nat.le_trans
abbrev dF:=@List.length_take
abbrev dG:=@Below.heap_alloc
abbrev dK:=@IntKind.wrap_i64
abbrev jA:=@List.getElem?_append_left
abbrev dX:=@List.length_drop
abbrev kP:=@List.eq_nil_of_length_eq_zero
abbrev gL:=@Nat.pow_le_pow_right
abbrev fH:=@Option.some.injEq
abbrev jQ:=@List.getElem?_take_of_lt
abbrev kZ:=@List.getElem?_append_right
abbrev eU:=@decide_eq_true
abbrev kF:=@World.block_lt_of_cell?
abbrev fT:=@decide_eq_false
abbrev dS:=@Nat.zero_add
abbrev fE:=@List.mem_cons
abbrev kW:=@List.take_of_length_le
abbrev iN:=@List.length_cons
abbrev jE:=@List.take_add_one
abbrev iF:=@List.mem_append
abbrev lY:=@List.getElem?_replicate
abbrev jJ:=@World.ownsRow_nil
abbrev iO:=@List.nil_append
abbrev dI:=@beq_iff_eq
abbrev mI:=@ownsRow_setCell_other
abbrev kM:=@List.getElem?_drop
abbrev kE:=@List.getElem?_map
abbrev kC:=@Nat.mod_eq_of_lt
abbrev jZ:=@List.cons_append
abbrev eD:=@info_parts
abbrev mZ:=@Nat.mul_le_mul_right
abbrev oH:=@List.length_singleton
abbrev iV:=@Nat.add_assoc
abbrev gW:=@Nat.pow_succ
abbrev nZ:=@List.mem_of_getElem?
abbrev pJ:=@List.take_append_drop
abbrev nM:=@Nat.lt_of_lt_of_le
abbrev nK:=@Value.slice.injEq
abbrev bT:=@trivial
abbrev iZ:=@Nat.zero_le
abbrev qB:=@List.mem_singleton
abbrev oJ:=@World.size_alloc
abbrev nG:=@List.length_map
abbrev qV:=@List.pairwise_cons
abbrev jO:=@cell_of_one
abbrev pE:=@List.length_nil
abbrev sV:=@Nat.add_sub_cancel
abbrev tY:=@bne_eq_false_iff_eq
abbrev lN:=@Nat.add_zero
abbrev vF:=@World.cell?_of_block
abbrev jP:=@bne_iff_ne
abbrev mD:=@results_none
abbrev mK:=@Nat.lt_or_ge
abbrev sD:=@wpList_make_full
abbrev sI:=@List.take_length
abbrev BD:=@List.getElem?_eq_some_iff
abbrev nH:=@Nat.mul_comm
abbrev LB:=@List.take_succ_eq_append_getElem
abbrev sS:=@List.map_append
abbrev sN:=@List.cons.injEq
abbrev CB:=@Nat.add_sub_cancel_left
abbrev nC:=@Nat.pow_pos
abbrev zD:=@List.pairwise_append
abbrev zN:=@List.mem_of_mem_take
abbrev uK:=@Obj.cells.injEq
abbrev vE:=@List.getElem_mem
abbrev zK:=@List.take_succ_cons
abbrev zI:=@List.getElem?_range
abbrev xD:=@List.size_toArray
abbrev oZ:=@Nat.pow_add
abbrev vV:=@Nat.min_eq_left
abbrev CV:=@Array.replicate_zero
abbrev BS:=@Array.replicate_succ
abbrev jX:=@and_true
abbrev LM:=@List.setIfInBounds_toArray
abbrev zJ:=@Array.size_append
abbrev CU:=@List.append_toArray
abbrev uI:=@List.map_cons
abbrev KV:=@World.cell?_setCell_other
abbrev sU:=@List.mem_map
abbrev UA:=@List.take_append_of_le_length
abbrev vK:=@Nat.mul_assoc
abbrev wG:=@Addr.mk.injEq
abbrev uL:=@Nat.sub_self
abbrev AR:=@List.push_toArray
abbrev wL:=@List.ext_getElem?
abbrev JO:=@Nat.mod_two_eq_zero_or_one
abbrev wQ:=@List.not_mem_nil
abbrev CZ:=@List.getElem?_toArray
abbrev uS:=@List.take_zero
abbrev uQ:=@DataW.trod_int
abbrev aC1:=@Oper.semAt_some
abbrev zA:=@Nat.lt_trichotomy
abbrev x9:=@run_underlying
abbrev J8:=@List.drop_of_length_le
abbrev DZ:=@Nat.eq_zero_or_pos
abbrev uV:=@callsIn_wide
abbrev JB:=@List.set_append_right
abbrev lZ:=@congrArg
abbrev qK:=@Below.refl
abbrev DW:=@of_decide_eq_true
abbrev DC:=@decide_eq_true_eq
abbrev P7:=@Int.tmod_eq_emod_of_nonneg
abbrev IC:=@List.mem_of_mem_drop
abbrev OI:=@Array.getElem?_eq_getElem
abbrev DN:=@World.drewN_zero
abbrev DI:=@Bool.and_eq_true
abbrev IY:=@List.map_congr_left
abbrev IE:=@Array.length_toList
abbrev OJ:=@wpList_lookup_own_ok_int
abbrev D5:=@Option.some.inj
abbrev DU:=@Nat.div_le_self
abbrev I5:=@grownCap_le_maxLen
abbrev JC:=@Nat.lt_of_le_of_lt
abbrev IZ:=@Nat.and_lt_two_pow
abbrev O8:=@List.getElem_cons_drop
abbrev wJ:=@Nat.one_mul
abbrev wT:=@Nat.mul_one
abbrev wO:=@Nat.add_mul
abbrev IL:=@IntWalk.wrap64_in
abbrev P6:=@run_convert_bytes_arg
abbrev O7:=@Nat.le_div_iff_mul_le
abbrev GK:=@List.drop_append
abbrev GI:=@BitVec.toNat_and
abbrev OQ:=@toList_madeCells_one
abbrev OX:=@List.replicate_succ'
abbrev O3:=@List.count_le_length
abbrev wK:=@Nat.mod_lt
abbrev FZ:=@List.range_succ
abbrev IK:=@List.nodup_cons
abbrev OH:=@run_firstCells_none
abbrev OM:=@Nat.mul_le_mul_left
abbrev O5:=@List.mem_map_of_mem
abbrev P9:=@Calls.quiet_of_same
abbrev PD:=@wpList_append_fits
abbrev OZ:=@Nat.and_one_is_mod
abbrev GN:=@List.mem_range
abbrev O4:=@Nat.or_lt_two_pow
abbrev OD:=@List.Pairwise.nil
abbrev DY:=@u32_xor_nat
abbrev GZ:=@callsIn_of_wp
abbrev IU:=@ByteArray.ext
abbrev OT:=@List.prefix_refl
abbrev PE:=@List.append_inj'
abbrev aD:=List Nat
abbrev aH:=World
abbrev bY:=ByteArray
abbrev aK:=Value
abbrev E (x:Nat):aK:= .pointer (some ⟨x,0,none⟩)
abbrev U (x i:Nat):Addr:=⟨x,i,none⟩
abbrev V (z:Int):aK:= .int .i64 z
variable {a b g k mb n off p:Nat} {w w':aH} {cs:Array aK} {v v':aK} {B:aD}
def aP {α:Type}(a:α):∃x,x=a:=⟨a,rfl⟩
def hide {p:Prop}(h:p):Hid p:=h
def aD0 {p:Prop}(h:Hid p):p:=h
end Go.dM
namespace Go.RowKit
def Hid.o {p:Prop}(h:Hid p):p:=h
end Go.RowKit
namespace Go.dM
open Go Go.RowKit
variable {a b g k mb n off p:Nat} {w w':aH} {cs:Array aK} {v v':aK} {B:aD}
def j5 (k n:Nat)(h:n<2^k):(BitVec.ofInt k (n:Int)).toNat=n:=by rw[BitVec.ofInt_natCast,BitVec.toNat_ofNat];exact kC h
def Co (a b:Nat)(d:a<256)(e:b<256):bits .and .u8 (a:Int) (b:Int)=((a&&&b:Nat):Int):=by have i:a&&&b<2^8:=IZ _ (by omega);show IntKind.u8.wrap ((BitVec.ofInt 8 (a:Int)&&&BitVec.ofInt 8 (b:Int)).toNat:Int)=_;rw[GI,j5 8 a (by omega),j5 8 b (by omega),IntKind.wrap_u8];omega
def UM (a b:Nat)(d:a<256)(e:b<256):bits .or .u8 (a:Int) (b:Int)=((a|||b:Nat):Int):=by
 have i:a|||b<2^8:=O4 (by omega) (by omega)
 show IntKind.u8.wrap ((BitVec.ofInt 8 (a:Int)|||BitVec.ofInt 8 (b:Int)).toNat:Int)=_;rw[BitVec.toNat_or,j5 8 a (by omega),j5 8 b (by omega),IntKind.wrap_u8];omega
def MZ (a b:Nat)(d:a<2^32)(e:b<2^32):bits .or .u32 (a:Int) (b:Int)=((a|||b:Nat):Int):=by
 have i:a|||b<2^32:=O4 (by omega) (by omega)
 show IntKind.u32.wrap ((BitVec.ofInt 32 (a:Int)|||BitVec.ofInt 32 (b:Int)).toNat:Int)=_;rw[BitVec.toNat_or,j5 32 a (by omega),j5 32 b (by omega),IntKind.wrap_u32];omega
def Cu (a b:Nat)(d:a<2^63)(e:b<2^63):bits .or .i64 (a:Int) (b:Int)=((a|||b:Nat):Int):=by
 have i:a|||b<2^63:=O4 (by omega) (by omega)
 show IntKind.i64.wrap ((BitVec.ofInt 64 (a:Int)|||BitVec.ofInt 64 (b:Int)).toNat:Int)=_;rw[BitVec.toNat_or,j5 64 a (by omega),j5 64 b (by omega),dK];omega
def Kh (a:Nat)(d:a<256):bits .and .u8 (a:Int) 1=((a%2:Nat):Int):=by have:=Co a 1 d (by omega);rw[OZ]at this;exact this
def bK (B:aD)(p:Nat):Nat:=B[p/8]?.getD 0/2^(p%8)%2
def kQ (B:aD)(p:Nat):bK B p<2:=by unfold bK;omega
def aG (B:aD)(p:Nat):Nat->Nat
 |0=>0
 |n+1=>aG B p n+bK B (p+n)*2^n
def bO (B:aD)(p n:Nat):aG B p n<2^n:=by
 induction n with
 |zero=>simp[aG]
 |succ n ih=>
  have:=kQ B (p+n);rw[aG,gW];have h:bK B (p+n)=0\/bK B (p+n)=1:=by omega
  rcases h with h|h<;>rw[h]<;>omega
def ag3 (a b k:Nat)(d:a<2^k):a|||b*2^k=a+b*2^k:=by rw[nH,Nat.or_comm,<-Nat.two_pow_add_eq_or_of_lt d,Nat.add_comm]
def or_bit (a b k:Nat)(hk:k<=61)(j:b<2)(d:a<2^k):bits .or .i64 (a:Int) (wrap64 ((b:Int)*2^k))=((a+b*2^k:Nat):Int):=by
 have hp:2^k<=2^61:=gL (by omega) hk;have e:((b:Int)*2^k)=((b*2^k:Nat):Int):=by simp
 have i:b*2^k<=1*2^k:=mZ _ (by omega);rw[e,IL _ ⟨by omega,by omega⟩,Cu _ _ (by omega) (by omega),ag3 a b k d]
def bE (g off n:Nat):Option Addr:=if off=4611686018427387904/\n=0 then none else some (U g off)
def a99 (h:0<n):bE g off n=some (U g off):=aB (by omega)
def ZN (h:off<4611686018427387904):bE g off n=some (U g off):=aB (by omega)
def Tv (g:Nat):bE g 4611686018427387904 0=none:=aA ⟨rfl,rfl⟩
structure ay5 (w:aH)(g off:Nat)(B:aD):Prop where
 cell:∀i:Nat,i<B.length->w.cell? ⟨g,off+i,none⟩=some (.int .u8 (B[i]?.getD 0:Nat))
 byte:∀i:Nat,B[i]?.getD 0<256
 much:B.length<=140737488351232
def aC {t:TypeId}(h:w.heap[b]? =some (.cells cs t (0,0)))(i:Nat)(v:aK)(hi:cs[i]? =some v):w.cell? (U b i)=some v:=by simp[World.cell?,h,hi]
def aJ {t:TypeId}(h:w.heap[b]? =some (.cells cs t (0,0)))(i:Nat):w.frozen? (U b i)=false:=by simp[World.frozen?,h]
def aV {t:TypeId}(h:w.heap[b]? =some (.cells cs t (0,0)))(i:Nat)(u:aK):(w.setCell (U b i) u).heap[b]? =some (.cells (cs.set! i u) t (0,0)):=by
 have d:=aO h;have e:w.heap[b]= .cells cs t (0,0):=by simpa[OI d]using h
 show(w.heap.modify b _)[b]? =_;rw[OI (by simpa using d),Array.getElem_modify_self,e];rfl
def fV {u x:aK}{t:TypeId}(h:w.heap[b]? =some (.cells #[u,v,x] t (0,0))):w.cell? (U b 0)=some u/\w.cell? (U b 1)=some v/\w.frozen? (U b 0)=false/\w.frozen? (U b 1)=false/\w.cell? (U b 2)=some x/\w.frozen? (U b 2)=false:=⟨aC h 0 u rfl,aC h 1 v rfl,aJ h 0,aJ h 1,aC h 2 x rfl,aJ h 2⟩
def gB {u:aK}{t:TypeId}(h:w.heap[b]? =some (.cells #[u,v] t (0,0))):w.cell? (U b 0)=some u/\w.cell? (U b 1)=some v/\w.frozen? (U b 0)=false/\w.frozen? (U b 1)=false:=⟨aC h 0 u rfl,aC h 1 v rfl,aJ h 0,aJ h 1⟩
structure Step (S:Nat->Prop)(w w':aH):Prop where
 os:w'.os=w.os
 tape:w'.tape=w.tape
 output:w'.output=w.output
 size:w.heap.size<=w'.heap.size
 block:∀k,k<w.heap.size->¬S k->w'.heap[k]? =w.heap[k]?
abbrev O (w w':aH):Prop:=Step (fun _=>False) w w'
namespace Step
variable {S S':Nat->Prop} {a b c w w':aH}
def refl (S:Nat->Prop)(w:aH):Step S w w:=⟨rfl,rfl,rfl,aS _,fun _ _ _=>rfl⟩
def mono (h:Step S w w')(hs:∀k,S k->S' k):Step S' w w':=⟨h.os,h.tape,h.output,h.size,fun k hk hn=>h.block k hk fun x=>hn (hs k x)⟩
def trans (h:Step S a b)(k:Step S b c):Step S a c:=⟨k.os.trans h.os,k.tape.trans h.tape,k.output.trans h.output,bB h.size k.size,fun i hi hn=>(k.block i (nM hi h.size) hn).trans (h.block i hi hn)⟩
def trans' (h:Step S a b)(k:Step S' b c)(hs:∀i,i<a.heap.size->S' i->S i):Step S a c:=⟨k.os.trans h.os,k.tape.trans h.tape,k.output.trans h.output,bB h.size k.size,fun i hi hn=>(k.block i (nM hi h.size) fun x=>hn (hs i hi x)).trans (h.block i hi hn)⟩
def drewN (h:Step S a w)(n:Nat):Step S a (w.drewN n):=h.trans ⟨rfl,rfl,rfl,aS _,fun _ _ _=>rfl⟩
def drew (h:Step S a w):Step S a w.drew:=h.trans ⟨rfl,rfl,rfl,aS _,fun _ _ _=>rfl⟩
def alloc (h:Step S a w)(o:Obj):Step S a (w.alloc o):=h.trans ⟨rfl,rfl,rfl,by simp,fun k hk _=>dG _ _ _ hk⟩
def setCell (h:Step S a w){p:Addr}(hp:S p.block)(u:aK):Step S a (w.setCell p u):=h.trans ⟨rfl,rfl,rfl,by simp[World.setCell],fun k _ hn=>cZ _ _ _ _ (fun e=>hn (e▸hp))⟩
def aZ (h:Step S a w){p:Addr}(hp:a.heap.size<=p.block)(u:aK):Step S a (w.setCell p u):=⟨h.os,h.tape,h.output,by simpa[World.setCell]using h.size,fun k hk hn=>(cZ _ _ _ _ (by omega)).trans (h.block k hk hn)⟩
def grown {row:Option Nat}(h:Step S a w)(d:w.grownBy w' row)(i:∀k,row=some k->S k\/a.heap.size<=k):Step S a w':=
 ⟨d.os.trans h.os,d.tape.trans h.tape,d.output.trans h.output,bB h.size d.size,fun k hk hn=>
  (d.block k (nM hk h.size) (fun e=>by rcases i k e.symm with x|x<;>first|exact hn x|omega)).trans (h.block k hk hn)⟩
def cell (h:Step S w w'){p:Addr}(d:w.cell? p=some v)(hn:¬S p.block):w'.cell? p=some v:=(vF (h.block p.block (kF w p d) hn)).trans d
def at_ (h:Step S w w'){o:Obj}(hk:w.heap[k]? =some o)(hn:¬S k):w'.heap[k]? =some o:=(h.block k (aO hk) hn).trans hk
end Step
abbrev aU:=@Step.refl
def ay5.step {S:Nat->Prop}(h:ay5 w g off B)(hs:Step S w w')(hn:¬S g):ay5 w' g off B:=⟨fun i hi=>hs.cell (h.cell i hi) hn,h.byte,h.much⟩
structure lV (f:Nat)(w w':aH)(p':Nat):Prop where
 step:Step (·=f) w w'
 feed:∀s p z t,w.heap[f]? =some (.cells #[s,V p,z] t (0,0))->w'.heap[f]? =some (.cells #[s,V (p':Nat),z] t (0,0))
def lV.trans {f:Nat}{a b c:aH}{q:Nat}(h:lV f a b p)(k:lV f b c q):lV f a c q:=⟨h.step.trans k.step,fun s x d t e=>k.feed s p d t (h.feed s x d t e)⟩
def lV.refl {f:Nat}{w:aH}{s z:aK}{p:Nat}{t:TypeId}(h:w.heap[f]? =some (.cells #[s,V p,z] t (0,0))):lV f w w p:=⟨aU _ _,fun s' e j i d=>by rw[h]at d;cases d;exact h⟩
def lV.set (f:Nat)(w:aH)(d n:Nat):lV f w ((w.setCell (U f 1) (V d)).drewN n) d:=
 ⟨((aU (·=f) w).setCell (p:=(U f 1)) rfl _).drewN n,fun s p z t e=>by
  have:=aV e 1 (V d)
  simpa using this⟩
end Go.dM
namespace Go.Proofs.YtbpahojchgpdnaaGreatDoor
open Go.RowKit Go.dM Go.Proofs.Tryz
variable {a b g k mb n off p:Nat} {w w':aH} {cs:Array aK} {v v':aK} {B:aD}
def sW (f g off cap z p:Nat)(B:aD)(w:aH)(l:w.heap[f]? =some (.cells #[.slice (bE g off B.length) B.length cap,V p,V z] 91 (0,0)))(i:ay5 w g off B)(o:p<8*B.length):Calls prog 153 #[E f] w fun e w'=>e= .returned (V (bK B p:Nat))/\lV f w w' (p+1):=by
 rw[a99 (by omega)]at l;obtain⟨q,r,_,u,_⟩:=fV l;have s:=i.cell (p/8) (by omega);have x:=i.much;have j:=i.byte (p/8);have m:(p:Int)/8<(B.length:Int):=by omega
 have d:wrap64 (bits BinOp.and IntKind.u8 ((B[p/8]?.getD 0:Nat)/2^(p%8)) 1)=(bK B p:Nat):=by
  have e:(((B[p/8]?.getD 0:Nat):Int)/2^(p%8))=((B[p/8]?.getD 0/2^(p%8):Nat):Int):=by simp
  rw[e,Kh _ (JC (DU _ _) j)];have:=kQ B p;unfold bK at this|-
  exact IL _ ⟨by omega,by omega⟩
 go_enter func153,ntmps153;go_wp2;go_quiet (fail);go_wp2;go_quiet (fail);go_wp2;go_ret;refine⟨?_,lV.set f w (p+1) _⟩;rw[<-d];rfl
def missing:aK:= .iface 197 (.agg #[])
def yN {z:Nat}(f len cap p:Nat)(a:Option Addr)(w:aH)(d:w.heap[f]? =some (.cells #[.slice a len cap,V p,V z] 91 (0,0)))(i:len<=140737488351232)(hp:p<4611686018427387904)(l:len<=p/8):Calls prog 153 #[E f] w fun e w'=>e= .panicked [{ v:=missing,recovered:=false }]/\∃n,w'=w.drewN n:=by
 obtain⟨o,q,_,r,_⟩:=fV d;have j:(len:Int)<=(p:Int)/8:=by omega
 have m:=hide d;clear d;go_enter func153,ntmps153;go_wp2;go_quiet (fail);go_wp2;exact⟨rfl,rfl,_,rfl⟩
def dO (f g off cap z p n:Nat)(B:aD)(w:aH)(r:w.heap[f]? =some (.cells #[.slice (bE g off B.length) B.length cap,V p,V z] 91 (0,0)))(s:ay5 w g off B)(m:g≠f)(hn:n<=60)(q:p+n<=8*B.length):Calls prog 119 #[E f,V n] w fun e w'=>e= .returned (V (aG B p n:Nat))/\lV f w w' (p+n):=by
 have A:=s.much;go_enter func119,ntmps119;go_wp2;go_loopw [5,8] (fun x i wr=>∃k:Nat,k<=n/\i=V k/\x=V (aG B p k:Nat)/\lV f w wr (p+k)) (fun _ i _=>n-(intOf i).toNat);case atStart=>exact⟨0,iZ _,rfl,rfl,lV.refl r⟩
 case round=>
  obtain⟨k,hk,rfl,rfl,d⟩:=hrel;by_cases q:k<n
  ·have l:=or_bit (aG B p k) (bK B (p+k)) k (by omega) (kQ _ _) (bO _ _ _);have u:=hide l;clear l;go_wp2_with fail;apply(sW f g off cap z (p+k) B wr (d.feed _ _ _ _ r) (s.step d.step m) (by omega)).mono;rintro e w1 ⟨rfl,j⟩;have y:=kQ B (p+k);go_wp2;go_roundw;case rel=>exact⟨k+1,by omega,by go_num,by rw[u.o];rfl,d.trans j⟩
   case measure=>simp[intOf];omega
  ·go_wp2;go_ret;have:k=n:=(by omega);subst this;exact⟨rfl,d⟩
def F5 (f p z:Nat)(s:aK)(w:aH)(d:w.heap[f]? =some (.cells #[s,V p,V z] 91 (0,0)))(hp:p<4611686018427387000):Calls prog 91 #[E f] w fun e w'=>e= .returned (V ((p+7)/8:Nat))/\w'=w:=by obtain⟨_,j,_,l,_⟩:=fV d;have i:=hide d;clear d;go_enter func91,ntmps91;go_wp2;go_ret;exact⟨rfl,rfl⟩
def YA (f p z:Nat)(s:aK)(w:aH)(i:w.heap[f]? =some (.cells #[s,V p,V z] 91 (0,0)))(hp:p<4611686018427387000)(q:z<4611686018427387904):Calls prog 55 #[E f] w fun e w'=>e= .returned (V (z+(p+7)/8:Nat))/\∃n,w'=w.drewN n:=by
 obtain⟨_,l,_,o,m,_⟩:=fV i;go_enter func55,ntmps55;have d:=F5 f p z s w.drew i hp;have j:IntKind.i64.wrap ((z:Int)+((p:Int)+7)/8)=(z:Int)+((p:Int)+7)/8:=by rw[dK];omega
 go_wp2_with fail
 go_region_held3 (fun w'=>w'.cell? (U f 2)=some (V z)) (go_keep)
  (first|(go_at_call 91;apply d.mono;rintro e w1 ⟨rfl,rfl⟩))
 all_goals
  go_wp2;go_ret;exact⟨rfl,1,rfl⟩
def uW {z:Nat}(f p:Nat)(s:aK)(w:aH)(d:w.heap[f]? =some (.cells #[s,V p,V z] 91 (0,0)))(hp:p<4611686018427387000):Calls prog 200 #[E f] w fun e w'=>e= .returned (.tuple #[])/\lV f w w' ((p+7)/8*8):=by obtain⟨_,j,_,l,_⟩:=fV d;have i:=hide d;clear d;go_enter func200,ntmps200;go_wp2_with fail;apply(F5 f p z s _ i.o (by omega)).mono;rintro e w1 ⟨rfl,rfl⟩;go_wp2;go_end0;refine⟨rfl,?_⟩;have:=lV.set f w1 ((p+7)/8*8) 0;rw[DN]at this;simpa using this
def wS (s:aK)(w:aH)(hs:∃a n c,s= .slice a n c):Calls prog 35 #[s] w fun e w'=>e= .returned (E w.heap.size)/\w'=w.alloc (.cells #[s,V 0,V 0] 91):=by obtain⟨a,n,c,rfl⟩:=hs;go_enter func35,ntmps35;go_wp2;go_ret;exact⟨rfl,rfl⟩
end Go.Proofs.YtbpahojchgpdnaaGreatDoor
namespace Go.dM
open Go Go.RowKit Go.Maps
abbrev Tab:=Nat->Option Nat
variable {a b g k mb n off p:Nat} {w w':aH} {cs:Array aK} {v v':aK} {B:aD}
def Bv (D:DataW Unit)(M:Tab):Prop:=
 ∀key:Nat,(∀s,M key=some s->Maps.has D (.int .u32 (key:Nat))=true/\D.atKey (.int .u32 (key:Nat)) (.lit (.int .i64 0))= .lit (.int .i64 (s:Nat)))/\(M key=none->Maps.has D (.int .u32 (key:Nat))=false)
def Sb:Bv (.map []) (fun _=>none):=fun key=>⟨fun s h=>by simp at h,fun _=>rfl⟩
def al7 {key:Nat}(e:Lit.int .u32 (k:Nat)=Lit.int .u32 (key:Nat)):k=key:=by
 have d:(k:Int)=(key:Int):=by simpa using e
 omega
def Uo {D:DataW Unit}{M:Tab}(h:Bv D M)(i:IsMap D)(key s:Nat):Bv (D.put (.int .u32 (key:Nat)) (.lit (.int .i64 (s:Nat)))) (fun k=>if k=key then some s else M k):=by
 intro k;by_cases hk:k=key
 ·subst hk;refine⟨fun s' hs=> ?_,fun hn=>by simp at hn⟩;simp at hs;subst hs;exact⟨has_put_same i (by exact bT) _,atKey_put_same i (by exact bT) _ _⟩
 ·have d:(Lit.int .u32 (k:Nat))≠(Lit.int .u32 (key:Nat)):=fun e=>hk (al7 e);have:=h k;simp only[aB hk];rw[has_put_other d,atKey_put_other d];exact this
def bU (B:aD)(p:Nat):Nat->Nat
 |0=>1
 |k+1=>2*bU B p k+bK B (p+k)
def JD (B:aD)(p k:Nat):2^k<=bU B p k/\bU B p k<2^(k+1):=by
 induction k with
 |zero=>simp[bU]
 |succ k ih=>
  have:=kQ B (p+k);rw[bU,gW 2 k,gW 2 (k+1)];omega
def G6 (B:aD)(p k:Nat)(hk:k<=15):bU B p k<65536:=by have:=(JD B p k).2;have h:2^(k+1)<=2^16:=gL (by omega) (by omega);omega
def a98 (a b:Nat)(d:b<2):2*a|||b=2*a+b:=by have h:=Nat.two_pow_add_eq_or_of_lt (i:=1) (b:=b) (by simpa using d) a;simpa using h.symm
structure Ints (w:aH)(g off:Nat)(L:aD):Prop where
 cell:∀i:Nat,i<L.length->w.cell? ⟨g,off+i,none⟩=some (V (L[i]?.getD 0:Nat))
 le:∀i:Nat,L[i]?.getD 0<=15
 much:L.length<=1000
def Ints.step {S:Nat->Prop}{L:aD}(h:Ints w g off L)(hs:Step S w w')(hn:¬S g):Ints w' g off L:=⟨fun i hi=>hs.cell (h.cell i hi) hn,h.le,h.much⟩
def eG (L:aD):Nat->Nat
 |0=>0
 |k+1=>eG L k+(if 0<L[k]?.getD 0 then 1 else 0)
def iD (L:aD):Nat->Nat
 |0=>0
 |k+1=>iD L k+(if 0<L[k]?.getD 0 then 32768/2^(L[k]?.getD 0)else 0)
def TA (L:aD)(k:Nat):eG L k<=k:=by
 induction k with
 |zero=>simp[eG]
 |succ k ih=>rw[eG];split<;>omega
def PK (L:aD)(k:Nat):iD L k<=32768*k:=by
 induction k with
 |zero=>simp[iD]
 |succ k ih=>
  rw[iD];have:32768/2^(L[k]?.getD 0)<=32768:=DU _ _;split<;>omega
def fF (L:aD):Bool:=iD L L.length==32768||(eG L L.length==1&&iD L L.length==16384)
structure d9 where
 next:Nat
 tab:Tab
 longest:Nat
def bR (L:aD)(l:Nat)(st:d9):Nat->d9
 |0=>st
 |k+1=>
  let x:=bR L l st k
  if L[k]?.getD 0=l then{ next:=x.next+1,tab:=fun c=>if c=x.next then some k else x.tab c,longest:=l }else x
def bZ (L:aD):Nat->d9
 |0=>{ next:=1,tab:=fun _=>none,longest:=0 }
 |l+1=>bR L (l+1) ⟨2*(bZ L l).next,(bZ L l).tab,(bZ L l).longest⟩ L.length
def aI (L:aD):d9:=bZ L 15
def vZ (L:aD)(l:Nat)(st:d9)(k:Nat):(bR L l st k).next<=st.next+k:=by
 induction k with
 |zero=>simp[bR]
 |succ k ih=>
  rw[bR];split
  ·show(bR L l st k).next+1<=_;omega
  ·omega
def UO (L:aD)(l:Nat):(bZ L l).next+L.length<=2^l*(1+L.length):=by
 induction l with
 |zero=>simp[bZ]
 |succ l ih=>
  have:=vZ L (l+1) ⟨2*(bZ L l).next,(bZ L l).tab,(bZ L l).longest⟩ L.length;rw[bZ,gW];simp at this;have e:2^l*2*(1+L.length)=2*(2^l*(1+L.length)):=by rw[nH (2^l) 2,vK]
  rw[e];omega
def DJ (L:aD)(j:L.length<=1000)(l:Nat)(e:l<=15):(bZ L l).next<=32800768:=by have h:=UO L l;have d:2^l<=2^15:=gL (by omega) e;have i:2^l*(1+L.length)<=2^15*(1+L.length):=mZ _ d;omega
def H6 (L:aD)(l:Nat)(st:d9)(h:st.longest<=l)(k:Nat):(bR L l st k).longest<=l:=by
 induction k with
 |zero=>simpa[bR]using h
 |succ k ih=>
  rw[bR];split
  ·exact aS _
  ·exact ih
def wM (L:aD)(l:Nat):(bZ L l).longest<=l:=by
 induction l with
 |zero=>simp[bZ]
 |succ l ih=>rw[bZ];exact H6 _ _ _ (by simp;omega) _
end Go.dM
namespace Go.Proofs.YtbpahojchgpdnaaGreatDoor
open Go.RowKit Go.dM Go.Maps Go.Proofs.Tryz
variable {a b g k mb n off p:Nat} {w w':aH} {cs:Array aK} {v v':aK} {B:aD}
def U2:Keyed prog 198:=int_keyed underlying198
def OC (w:aH):(zeroValue 3).run prog w= .ok (V 0) w:=by kernel_rfl
def TabAt (w:aH)(mb:Nat)(M:Tab):Prop:=
 ∃(n:Nat) (D:DataW Unit),n<=1000000/\w.ownsMap prog 198 (plainElem prog 3) mb n D/\Bv D M
def TabAt.of {M:Tab}(h:TabAt w mb M)(l:w'.heap[mb]? =w.heap[mb]?):TabAt w' mb M:=by obtain⟨n,D,i,⟨e,d,a,r⟩,j⟩:=h;exact⟨n,D,i,⟨e,d,l.trans a,r⟩,j⟩
def TabAt.lt {M:Tab}(h:TabAt w mb M):mb<w.heap.size:=by obtain⟨n,D,e,d,i⟩:=h;exact d.lt
def TabAt.step {S:Nat->Prop}{M:Tab}(h:TabAt w mb M)(hs:Step S w w')(hn:¬S mb):TabAt w' mb M:=h.of (hs.block mb h.lt hn)
def lV.vU {f:Nat}{s z:aK}{t:TypeId}(h:w.heap[f]? =some (.cells #[s,V p,z] t (0,0)))(o:Obj):lV f w (w.alloc o) p:=
 ⟨(aU _ w).alloc o,fun s' e j i d=>by
  rw[h]at d;cases d
  exact(dG w o f (aO h)).trans h⟩
def ar3 (f g off cap z p k mb longest s:Nat)(M:Tab)(B:aD)(w:aH)(W:w.heap[f]? =some (.cells #[.slice (bE g off B.length) B.length cap, .int .i64 (p:Nat), .int .i64 (z:Nat)] 91 (0,0)))(hS:ay5 w g off B)(J:g≠f)(hT:TabAt w mb M)(P:mb≠f)(am:1<=k)(hk:k<=longest)(hl:longest<=15)(ao:p+k<=8*B.length)(hM:M (bU B p k)=some s)(ac:∀j,1<=j->j<k->M (bU B p j)=none)(ai:s<100000):Calls prog 191 #[.agg #[.map (some mb), .int .i64 (longest:Nat)], .pointer (some ⟨f,0,none⟩)] w fun e w'=>e= .returned (.tuple #[.int .i64 (s:Nat), .int .i64 0])/\lV f w w' (p+k):=by
 have ag:=hT.lt;have af:=aO W;go_enter func191,ntmps191;go_wp2_with fail;obtain⟨box,y⟩:=aP (Obj.cells #[.map (some mb), .int .i64 (longest:Nat)] 123);have r:=lV.vU W box;have H:=r.feed _ _ _ _ W;have Y:=hT.step r.step P;have X:=hS.step r.step J;have Z:(w.alloc box).heap[w.heap.size]? =some (.cells #[.map (some mb), .int .i64 (longest:Nat)] 123 (0,0)):=by rw[y];exact aR _ _
 have aa:w.heap.size≠f:=by omega
 rw[<-y];generalize aj:w.alloc box=w1 at*;go_loopw [6,11] (fun c i wr=>∃j:Nat,j<k/\i= .int .i64 (j:Nat)/\c= .int .u32 (bU B p j:Nat)/\lV f w1 wr (p+j)) (fun _ i _=>k-(intOf i).toNat);case atStart=>exact⟨0,by omega,rfl,rfl,lV.refl H⟩
 case round=>
  obtain⟨j,hj,rfl,rfl,l⟩:=hrel;have an:=G6 B p j (by omega);have N:=G6 B p (j+1) (by omega);have ab:=kQ B (p+j);go_wp2_with fail;apply(sW f g off cap z (p+j) B wr (l.feed _ _ _ _ H) (X.step l.step J) (by omega)).mono;rintro e w2 ⟨rfl,q⟩;have d:=l.trans q;obtain⟨ak,_,_,_⟩:=gB (d.step.at_ Z aa);obtain⟨n,D,hn,C,T⟩:=Y.step d.step P;clear l q;have ae:bits BinOp.or IntKind.u32 ((bU B p j:Int)*2) (bK B (p+j):Int)=((bU B p (j+1):Nat):Int):=by
   have:=MZ (2*bU B p j) (bK B (p+j)) (by omega) (by omega);rw[a98 _ _ ab]at this;rw[Int.mul_comm];exact this
  have m:=T (bU B p (j+1));obtain⟨R,u⟩:=aP (bU B p (j+1));rw[<-u]at ae N m;have F:=hide u;have A:(Lit.int IntKind.u32 (R:Int)).wf=true:=WalkArith.wf_u32 (by omega);by_cases L:j+1<k
  ·have ad:=m.2 (by rw[F.o];exact ac (j+1) (by omega) L);clear u T m;have ap:True:=bT;go_wp2_with (first|(at_lookup;refine OJ _ rfl _ _ 121 rfl 198 3 .i64 U2 underlying121 underlying3 (OC _) mb n D rfl C _ (.int .u32 (R:Int)) rfl (keyOf_int_mk underlying198 A) ?_;intro c x G;clear x G));go_roundw;case rel=>exact⟨j+1,L,by go_num,by rw[F.o],d⟩
   case measure=>simp[intOf];omega
  ·have K:j+1=k:=(by omega);have Q:=m.1 s (by rw[F.o,K];exact hM);obtain⟨ah,I⟩:=Q;clear u T m;go_wp2_with (first|(at_lookup;refine OJ _ rfl _ _ 121 rfl 198 3 .i64 U2 underlying121 underlying3 (OC _) mb n D rfl C _ (.int .u32 (R:Int)) rfl (keyOf_int_mk underlying198 A) ?_;intro c x G;have al:c=(s:Int):=(by have h3:=x.symm.trans I;simpa using h3);clear x G));go_ret2;refine⟨rfl,?_⟩;rw[<-K];exact r.trans d
end Go.Proofs.YtbpahojchgpdnaaGreatDoor
namespace Go.dM
open Go Go.RowKit
variable {a b g k mb n off p:Nat} {w w':aH} {cs:Array aK} {v v':aK} {B:aD}
def bH {base d:Nat}{e:TypeId}{size:Nat}{xs:List aK}(h:w.ownsRow base e size v n xs)(o:d<=base):w.ownsRow d e size v n xs:=by
 obtain⟨j,l|⟨g,cap,i,m,q,r⟩⟩:=h
 ·exact⟨j, .inl l⟩
 ·exact⟨j, .inr ⟨g,cap,i,m,by omega,r⟩⟩
def M9 {row:Option Nat}(h:w.grownBy w' none):w.grownBy w' row:=⟨h.os,h.tape,h.output,h.size,fun k hk _=>h.block k hk (by simp)⟩
def fQ {P:Program}(w:aH){I:Array Oper}{rest:List Oper}{o:Oper}{a:Act}{Q:Exit->Act->aH->Prop}(hg:o.guard=none)(s x:Operand)(t:TypeId)(N:o.op=Op.call { callee:=Callee.builtin Builtin.append,args:=#[s,x],argTypes:=#[t,t] })(base:Nat)(e:TypeId)(i:TypeInfo)(z:aK)(size bytes:Nat)(Y:P.underlying t=some (.slice e))(Z:P.info? e=some i)(h3:i.zero=some z)(h4:i.size=size)(h5:i.bytes=bytes)(h6:z.cells.size=size)(h7:0<size)(v:aK)(n:Nat)(xs:List aK)(hs:a.eval s=v)(q:w.ownsRow base e size v n xs)(R:Addr)(m c:Nat)(news:List aK)(hx:a.eval x= .slice (some R) m c)(hn:news.length=m*size)(hc:∀j u,news[j]? =some u->w.cell? (R.add j)=some u)(K:∀u∈news,u.oneCell'=true)(hm:0<m)(b1:n+m<=maxLen)(b2:(n+m)*bytes<=140737488355328)(y:base<=w.heap.size)(hK:∀g cap w',w'.ownsRow base e size (.slice (some (U g 0)) (n+m) cap) (n+m) (xs++news)->w.grownBy w' v.ownBlock->(v.ownBlock=some g\/w.heap.size<=g)->wpList P I Q rest (a.put o.dst (.slice (some (U g 0)) (n+m) cap)) w'):wpList P I Q (o::rest) a w:=by
 have l:∀(J:Option Addr) (cap:Nat),v= .slice J n cap->(J=none->n=0/\cap=0)->(∀b,J=some b->∀j u,xs[j]? =some u->w.cell? (b.add j)=some u)->cap<n+m->wpList P I Q (o::rest) a w:=by
  intro J cap G D X A;refine wpList_append_grows w hg s x t N e i z size bytes Y Z h3 h4 h5 h6 h7 J n cap xs (hs.trans G) D q.1 X R m c news hx hn hc K A b1 b2 ?_;intro v' w' M C;obtain⟨g,d,H⟩:∃g d,v'= .slice (some (U g 0)) (n+m) d:=by
   obtain⟨_,⟨_,hz⟩|⟨g,d,T,H,_⟩⟩:=M
   ·omega
   ·exact⟨g,d,H⟩
  subst H;exact hK g d w' (bH M y) (M9 C) (.inr (by
   have:=M.lt g rfl;exact this.1))
 have r:=q;obtain⟨hl,⟨G,L⟩|⟨g,cap,T,G,ac,hh,ae,aa,ab,af⟩⟩:=q
 ·exact l none 0 (by rw[G,L]) (fun _=>⟨L,rfl⟩) (fun b W=>by cases W) (by omega)
 ·by_cases F:n+m<=cap
  ·subst G;exact PD w hg s x t N base e i size Y Z h4 g n cap xs hs r R m c news hx hn hc K F fun w' M C=>hK g cap w' M C (.inl rfl)
  ·refine l (some (U g 0)) cap G (fun h=>by cases h) (fun b W j u hu=> ?_) (by omega);cases W;subst G;exact r.cells rfl j u hu
structure bQ (bs:List Bool)(B:aD):Prop where
 byte:∀i:Nat,B[i]?.getD 0<256
 bit:∀p:Nat,bK B p=(bs[p]?.getD false).toNat
def bQ.nil:bQ [] []:=⟨fun i=>by simp,fun p=>by simp[bK]⟩
def BA (B:aD)(i:Nat):(B++[0])[i]?.getD 0=B[i]?.getD 0:=by
 rcases zA i B.length with h|h|h
 ·rw[jA h]
 ·subst h;simp
 ·rw[fZ (by simp;omega),fZ (by omega)]
def bQ.zero {d:List Bool}(h:bQ d B):bQ d (B++[0]):=⟨fun i=>by rw[BA];exact h.byte i,fun p=>by unfold bK;rw[BA];exact h.bit p⟩
def NW (d:List Bool)(p:Nat):(d++[false])[p]?.getD false=d[p]?.getD false:=by
 rcases zA p d.length with h|h|h
 ·rw[jA h]
 ·subst h;simp
 ·rw[fZ (by simp;omega),fZ (by omega)]
def bQ.as8 {d:List Bool}(h:bQ d B):bQ (d++[false]) B:=⟨h.byte,fun p=>by rw[NW];exact h.bit p⟩
def Vb (a k:Nat)(d:a<256)(hk:k<8):a|||2^k<256:=by have:2^k<2^8:=Nat.pow_lt_pow_right (by omega) hk;have h:=O4 (n:=8) d this;exact h
def R8 (a k j:Nat):(a|||2^k)/2^j%2=if j=k then 1 else a/2^j%2:=by
 have h:=Nat.testBit_or a (2^k) j;rw[Nat.testBit_two_pow]at h;have e:∀x:Nat,x/2^j%2=(x.testBit j).toNat:=fun x=>by rw[Nat.testBit_eq_decide_div_mod_eq];rcases JO (x/2^j)with h|h<;>simp[h]
 rw[e,e,h];by_cases hk:j=k
 ·subst hk;simp
 ·have:¬k=j:=fun x=>hk x.symm;simp[hk,this]
def Gr (B:aD)(j x i:Nat)(d:j<B.length):(B.set j x)[i]?.getD 0=if i=j then x else B[i]?.getD 0:=by
 by_cases h:i=j
 ·subst h;simp[d]
 ·rw[List.getElem?_set_ne (by omega),aB h]
def bQ.at6 {d:List Bool}(h:bQ d B)(l:d.length/8<B.length):bQ (d++[true]) (B.set (d.length/8) (B[d.length/8]?.getD 0|||2^(d.length%8))):=by
 refine⟨fun i=> ?_,fun p=> ?_⟩
 ·rw[Gr _ _ _ _ l];split
  ·exact Vb _ _ (h.byte _) (wK _ (by omega))
  ·exact h.byte i
 ·have e:=h.bit p;unfold bK at e|-
  rw[Gr _ _ _ _ l];by_cases hp:p=d.length
  ·subst hp;rw[aA rfl,R8,aA rfl];simp
  ·have m:(d++[true])[p]?.getD false=d[p]?.getD false:=by
    rcases zA p d.length with h|h|h
    ·rw[jA h]
    ·exact absurd h hp
    ·rw[fZ (by simp;omega),fZ (by omega)]
   rw[m];by_cases j:p/8=d.length/8
   ·rw[aA j,R8,aB (by omega),<-j];exact e
   ·rw[aB j];exact e
abbrev jR (B:aD):List aK:=B.map fun c=>Value.int .u8 (c:Nat)
structure dH (b:Nat)(w:aH)(v:aK)(w':aH)(v':aK):Prop where
 step:Step (fun k=>k=b\/v.ownBlock=some k) w w'
 own:∀k,v'.ownBlock=some k->v.ownBlock=some k\/w.heap.size<=k
def dH.refl (b:Nat)(w:aH)(v:aK):dH b w v w v:=⟨aU _ _,fun _ h=> .inl h⟩
def dH.trans {w1 w2:aH}{v1 j:aK}(h:dH b w v w1 v1)(k:dH b w1 v1 w2 j):dH b w v w2 j:=
 ⟨h.step.trans' k.step fun i hi d=>by
   rcases d with d|d
   ·exact .inl d
   ·rcases h.own i d with e|e
    ·exact .inr e
    ·omega,
  fun i hi=>by
   rcases k.own i hi with d|d
   ·exact h.own i d
   ·have:=h.step.size;exact .inr (by omega)⟩
def qM (B:aD)(i:Nat)(h:i<B.length):(jR B)[i]? =some (.int .u8 (B[i]?.getD 0:Nat)):=by simp[jR,kE,bV h]
def or_val (a k:Nat)(j:a<256)(hk:k<8):bits BinOp.or IntKind.u8 (a:Int) (2^k%256)=((a|||2^k:Nat):Int):=by
 have i:2^k<2^8:=Nat.pow_lt_pow_right (by omega) hk;have e:((2:Int)^k%256)=((2^k:Nat):Int):=by
  have d:∀m:Nat,m<256->(m:Int)%256=m:=by omega
  rw[show((2:Int)^k)=((2^k:Nat):Int) by simp,d _ (by simpa using i)]
 rw[e,UM a _ j (by omega)]
def numBits (x n:Nat):List Bool:=(List.range n).map fun i=>decide (x/2^i%2=1)
def uX (x n:Nat):numBits x (n+1)=numBits x n++[decide (x/2^n%2=1)]:=by simp[numBits,FZ]
def aM (x n:Nat):(numBits x n).length=n:=by simp[numBits]
def rH (x n k:Nat):List Bool:=(List.range k).map fun j=>decide (x/2^(n-1-j)%2=1)
def nT (x n:Nat):List Bool:=rH x n n
def MB (x n k:Nat):rH x n (k+1)=rH x n k++[decide (x/2^(n-1-k)%2=1)]:=by simp[rH,FZ]
def xE (x n k:Nat):(rH x n k).length=k:=by simp[rH]
def uH (x n:Nat):(nT x n).length=n:=by simp[nT,rH]
def bA (w:aH)(k t n:Nat)(f:Nat->aK):Prop:=
 ∃A,w.heap[k]? =some (.cells A t (0,0))/\A.size=n/\∀i,i<n->A[i]? =some (f i)
namespace bA
variable {w w':aH} {k t n:Nat} {f g:Nat->aK}
def cell (h:bA w k t n f)(i:Nat)(hi:i<n):w.cell? (U k i)=some (f i):=by obtain⟨A,d,_,e⟩:=h;exact aC d i _ (e i hi)
def free (h:bA w k t n f)(i:Nat):w.frozen? (U k i)=false:=by obtain⟨A,d,_,_⟩:=h;exact aJ d i
def lt (h:bA w k t n f):k<w.heap.size:=by obtain⟨A,d,_⟩:=h;exact aO d
def set (h:bA w k t n f)(i:Nat)(v:aK):bA (w.setCell (U k i) v) k t n (fun j=>if j=i then v else f j):=by
 obtain⟨A,m,e,o⟩:=h;refine⟨A.set! i v,aV m i v,by simp[e],fun j l=> ?_⟩;by_cases d:j=i
 ·subst d;simp[e,l]
 ·simp only[aB d];rw[<-o j l];simp[Ne.symm d]
def of (h:bA w k t n f)(e:w'.heap[k]? =w.heap[k]?):bA w' k t n f:=by obtain⟨A,d,r⟩:=h;exact⟨A,e.trans d,r⟩
def other (h:bA w k t n f){a:Addr}(d:k≠a.block)(v:aK):bA (w.setCell a v) k t n f:=h.of (cZ _ _ _ _ d)
def alloc (h:bA w k t n f)(o:Obj):bA (w.alloc o) k t n f:=h.of (dG _ _ _ h.lt)
def drew (h:bA w k t n f):bA w.drew k t n f:=h.of rfl
def step {S:Nat->Prop}(h:bA w k t n f)(hs:Step S w w')(hn:¬S k):bA w' k t n f:=h.of (hs.block k h.lt hn)
def congr (h:bA w k t n f)(l:∀i,i<n->f i=g i):bA w k t n g:=by obtain⟨A,d,e,j⟩:=h;exact⟨A,d,e,fun i hi=>by rw[j i hi,l i hi]⟩
def born (w:aH){A:Array aK}(t:Nat)(hs:A.size=n)(d:∀i,i<n->A[i]? =some (f i)):bA (w.alloc (.cells A t)) w.heap.size t n f:=⟨A,by show(w.heap.push _)[w.heap.size]? =_;simp,hs,d⟩
end bA
def Step.Wt {S:Nat->Prop}{a:aH}(h:Step S a w)(hk:a.heap.size<=k)(A:Array aK):Step S a (w.setRow k A):=⟨by simpa using h.os,by simpa using h.tape,by simpa using h.output,by simpa using h.size,fun i hi hn=>(setRow_other w k i A (by omega)).trans (h.block i hi hn)⟩
def Off (b:Nat)(v:aK)(k:Nat):Prop:=k≠b/\v.ownBlock≠some k
def Off.wrt (h:Off b v k)(hk:k<w.heap.size)(d:dH b w v w' v'):Off b v' k:=⟨h.1,fun e=>(d.own k e).elim h.2 (fun x=>by omega)⟩
def bA.wrt {t:Nat}{f:Nat->aK}(h:bA w k t n f)(d:Off b v k)(e:dH b w v w' v'):bA w' k t n f:=h.step e.step fun x=>x.elim d.1 d.2
def dH.alloc (h:dH b w v w' v')(o:Obj):dH b w v (w'.alloc o) v':=⟨h.step.alloc o,h.own⟩
def dH.drew (h:dH b w v w' v'):dH b w v w'.drew v':=⟨h.step.drew,h.own⟩
def dH.drewN (h:dH b w v w' v')(n:Nat):dH b w v (w'.drewN n) v':=⟨h.step.drewN n,h.own⟩
def dH.aZ (h:dH b w v w' v'){p:Addr}(hp:w.heap.size<=p.block)(u:aK):dH b w v (w'.setCell p u) v':=⟨h.step.aZ hp u,h.own⟩
def dH.step0 {d:aH}(h:dH b w v w' v')(hs:O w' d):dH b w v d v':=⟨h.step.trans' hs fun _ _ x=>x.elim,h.own⟩
def bX {base e size:Nat}{xs:List aK}(h:w.ownsRow base e size v n xs)(m:∀k,v.ownBlock=some k->w'.heap[k]? =w.heap[k]?):w'.ownsRow base e size v n xs:=by
 obtain⟨i,l|⟨g,cap,d,j,o,hh,r⟩⟩:=h
 ·exact⟨i, .inl l⟩
 ·exact⟨i, .inr ⟨g,cap,d,j,o,(m g (by rw[j];rfl)).trans hh,r⟩⟩
def bP:aD:=[16,17,18,0,8,7,9,6,10,5,11,4,12,3,13,2,14,1,15]
end Go.dM
namespace Go.Proofs.YtbpahojchgpdnaaGreatDoor
open Go.RowKit Go.dM Go.Proofs.Tryz
variable {a b g k mb n off p:Nat} {w w':aH} {cs:Array aK} {v v':aK} {B:aD}
def ar9 (e:Fn)(d cap:Array aK)(w:aH):(Instr.makeFunc e d cap).run prog w= .ok (.func e d cap) w:=rfl
def ay9:prog.follows .mixedOrders=true:=by kernel_rfl
def info5:(prog.info? 5).map (fun i=>(i.zero,i.size,i.bytes))=some (some (.int .u8 0),1,1):=by kernel_rfl
def bS (last:Bool)(kind:Nat):List Bool:=last::numBits kind 2
def dW (n:Nat):List Bool:=List.replicate ((8-n%8)%8) false
def dA (l:aD):List Bool:=l.flatMap (numBits · 8)
def iA (l:aD):(dA l).length=8*l.length:=by
 induction l with
 |nil=>simp[dA]
 |cons a l ih=>
  have e:dA (a::l)=numBits a 8++dA l:=by simp[dA]
  rw[e,aN,iN,aM];omega
def bF (n:Nat)(l:aD)(last:Bool):List Bool:=
 bS last 0++dW (n+3)++numBits l.length 16++numBits (65535-l.length) 16++dA l
def aT (last:Bool)(k:Nat):(bS last k).length=3:=by simp[bS,aM]
def bytesOf (s:bY):aD:=s.data.toList.map (·.toNat)
def bytesOf_length (s:bY):(bytesOf s).length=s.size:=by unfold bytesOf;rw[nG,IE];rfl
def pV (s:bY):∀x∈bytesOf s,x<256:=by intro x d;simp only[bytesOf,sU]at d;obtain⟨c,_,rfl⟩:=d;exact c.toNat_lt
def bytesOf_take (s:bY)(k:Nat)(h:k<s.size):(bytesOf s).take (k+1)=(bytesOf s).take k++[s[k].toNat]:=by rw[LB (by rw[bytesOf_length];exact h)];simp[bytesOf];rfl
def BX (s:bY)(k:Nat)(h:k<s.size):(bytesOf s)[k]?.getD 0=s[k].toNat:=by rw[bV (by rw[bytesOf_length];exact h)];simp[bytesOf];rfl
open Go.Maps
def DR (g off cap:Nat)(L:aD)(w:aH)(h:Ints w g off L):Calls prog 223 #[.slice (some (U g off)) L.length cap] w fun e w'=>e= .returned (.tuple #[V (eG L L.length:Nat),V (iD L L.length:Nat)])/\w'=w:=by
 have G:=h.much;go_enter func223,ntmps223;go_wp2;go_loop [2,3,8] (fun c x i=>∃k:Nat,k<=L.length/\i=V k/\c=V (eG L k:Nat)/\x=V (iD L k:Nat)) (fun _ _ i=>L.length-(intOf i).toNat);case atStart=>exact⟨0,by omega,rfl,rfl,rfl⟩
 case round=>
  obtain⟨k,hk,rfl,rfl,rfl⟩:=hrel;have D:=TA L k;have F:=PK L k;by_cases y:k<L.length
  ·have C:=h.cell k y;have u:=h.le k;obtain⟨q,z⟩:=aP (L[k]?.getD 0);rw[<-z]at C u;have j:=hide z;clear z;by_cases l:0<q
   ·have s:32768/2^q<=32768:=DU _ _;have r:((32768:Int)/2^q)=((32768/2^q:Nat):Int):=(by simp);obtain⟨d,m⟩:=aP (32768/2^q);rw[<-m]at r s;have A:=hide m;clear m;go_wp2;go_round;case rel=>exact⟨k+1,by omega,by go_num,by rw[eG,<-j.o,aA l];go_num,by rw[iD,<-j.o,aA l,<-A.o];go_num⟩
    case measure=>simp[intOf];omega
   ·go_wp2;go_round;case rel=>exact⟨k+1,by omega,by go_num,by rw[eG,<-j.o,aB l];go_num,by rw[iD,<-j.o,aB l];go_num⟩
    case measure=>simp[intOf];omega
  ·have:k=L.length:=(by omega);subst this;go_wp2;go_ret2;exact⟨rfl,rfl⟩
def XO (g off cap:Nat)(L:aD)(w:aH)(h:Ints w g off L):Calls prog 217 #[.slice (some (U g off)) L.length cap] w fun e w'=>e= .returned (.bool (fF L))/\w'=w:=by
 have u:=TA L L.length;have y:=PK L L.length;have z:=h.much;have i:fF L=(iD L L.length==32768||(eG L L.length==1&&iD L L.length==16384)):=rfl;go_enter func217,ntmps217;go_wp2_with fail;apply(DR g off cap L w h).mono;rintro e w1 ⟨rfl,rfl⟩;generalize eG L L.length=c at*;generalize iD L L.length=x at*;by_cases s:x=32768
 ·have j:((x:Int)==32768)=true:=dI.2 (by omega);go_wp2;go_ret;exact⟨by rw[i,s];rfl,rfl⟩
 ·have j:((x:Int)==32768)=false:=aX.2 (by omega);have d:(x==32768)=false:=aX.2 s;by_cases l:c=1
  ·have m:((c:Int)==1)=true:=dI.2 (by omega);by_cases e3:x=16384
   ·have q:((x:Int)==16384)=true:=dI.2 (by omega);go_wp2;go_ret;exact⟨by rw[i,l,e3];rfl,rfl⟩
   ·have q:((x:Int)==16384)=false:=aX.2 (by omega);have r:(x==16384)=false:=aX.2 e3;go_wp2;go_ret;exact⟨by rw[i,d,r,l];rfl,rfl⟩
  ·have m:((c:Int)==1)=false:=aX.2 (by omega);have o:(c==1)=false:=aX.2 l;go_wp2;go_ret;exact⟨by rw[i,d,o];rfl,rfl⟩
end Go.Proofs.YtbpahojchgpdnaaGreatDoor
namespace Go.dM
open Go Go.RowKit
variable {a b g k mb n off p:Nat} {w w':aH} {cs:Array aK} {v v':aK} {B:aD}
def dY (L:aD)(l:Nat):Nat->Nat
 |0=>0
 |k+1=>dY L l k+(if L[k]?.getD 0=l then 1 else 0)
def Js (L:aD)(l:Nat)(h:a<=b):dY L l a<=dY L l b:=by
  induction b with
  | zero => have : a = 0 := by omega
            subst this;exact aS _
  | succ b ih =>
    by_cases d:a=b+1;. subst d;exact aS _
    . have:=ih (by omega)
      rw[dY];omega
def Af (L:aD)(l:Nat)(h:a<b)(e:L[a]?.getD 0=l):dY L l a<dY L l b:=by have d:=Js L l (show a+1<=b from h);rw[dY,aA e]at d;omega
def nx (L:aD):Nat->Nat
 |0=>1
 |l+1=>2*nx L l+dY L (l+1) L.length
def qG (L:aD)(l:Nat)(st:d9)(k:Nat):(bR L l st k).next=st.next+dY L l k:=by
 induction k with
 |zero=>simp[bR,dY]
 |succ k ih=>
  rw[bR,dY];split
  ·show(bR L l st k).next+1=_;rw[ih];omega
  ·rw[ih];omega
def kU (L:aD)(l:Nat):(bZ L l).next=nx L l:=by
 induction l with
 |zero=>rfl
 |succ l ih=>rw[bZ,qG,nx];show 2*(bZ L l).next+_=_;rw[ih]
def Ng (L:aD)(l:Nat)(st:d9)(m:∀c s,st.tab c=some s->c<st.next)(k c s:Nat):(bR L l st k).tab c=some s↔st.tab c=some s\/(s<k/\L[s]?.getD 0=l/\c=st.next+dY L l s):=by
 induction k with
 |zero=>simp[bR]
 |succ k ih=>
  have hn:=qG L l st k;rw[bR];split
  ·rename_i hk;show(if c=(bR L l st k).next then some k else(bR L l st k).tab c)=some s↔_;by_cases o:c=(bR L l st k).next
   ·rw[aA o];constructor
    ·intro h;simp only[fH]at h;subst h;exact .inr ⟨by omega,hk,by omega⟩
    ·rintro(h|⟨j,e,i⟩)
     ·have:=m c s h;omega
     ·by_cases d:s=k
      ·rw[d]
      ·have:=Af L l (show s<k by omega) e;omega
   ·rw[aB o,ih];constructor
    ·rintro(h|⟨j,e,i⟩)
     ·exact .inl h
     ·exact .inr ⟨by omega,e,i⟩
    ·rintro(h|⟨j,e,i⟩)
     ·exact .inl h
     ·by_cases d:s=k
      ·subst d;omega
      ·exact .inr ⟨by omega,e,i⟩
  ·rename_i hk;rw[ih];constructor
   ·rintro(h|⟨j,e,i⟩)
    ·exact .inl h
    ·exact .inr ⟨by omega,e,i⟩
   ·rintro(h|⟨j,e,i⟩)
    ·exact .inl h
    ·by_cases d:s=k
     ·subst d;exact absurd e hk
     ·exact .inr ⟨by omega,e,i⟩
def keyOf (L:aD)(s:Nat):Nat:=2*nx L (L[s]?.getD 0-1)+dY L (L[s]?.getD 0) s
def Qk (L:aD)(l:Nat):2*nx L l<=nx L (l+1):=by rw[nx];omega
def LC (L:aD)(l:Nat):2^l<=nx L l:=by
 induction l with
 |zero=>simp[nx]
 |succ l ih=>have:=Qk L l;rw[gW];omega
def GY (L:aD)(h:a<=b):nx L a*2^(b-a)<=nx L b:=by
  induction b with
  | zero => have : a = 0 := by omega
            subst this;simp
  | succ b ih =>
    by_cases d:a=b+1;. subst d;simp
    . have e:=ih (by omega)
      have i:=Qk L b
      rw[show b+1-a=(b-a)+1 by omega,gW,<-vK]
      omega
def Zw (L:aD)(h:a<=b):nx L a<=nx L b:=by have d:=GY L h;have e:nx L a*1<=nx L a*2^(b-a):=OM _ (nC (by omega));omega
def BH (L:aD)(s:Nat)(hs:s<L.length)(e:1<=L[s]?.getD 0):keyOf L s<nx L (L[s]?.getD 0):=by
 have h:=Af L (L[s]?.getD 0) hs rfl;unfold keyOf;obtain⟨l,d⟩:∃l,L[s]?.getD 0=l+1:=⟨L[s]?.getD 0-1,by omega⟩
 rw[d]at h|-
 rw[nx,sV];omega
def l8 (L:aD)(l:Nat):(∀c s,(bZ L l).tab c=some s↔(s<L.length/\1<=L[s]?.getD 0/\L[s]?.getD 0<=l/\c=keyOf L s)):=by
 induction l with
 |zero=>intro c s;simp[bZ];omega
 |succ l ih=>
  intro c s;have o:∀c s,(⟨2*(bZ L l).next,(bZ L l).tab,(bZ L l).longest⟩:d9).tab c=some s->c<(⟨2*(bZ L l).next,(bZ L l).tab,(bZ L l).longest⟩:d9).next:=by
   intro c s h;have m:=(ih c s).1 h;have e:=BH L s m.1 m.2.1;have i:=Zw L m.2.2.1;show c<2*(bZ L l).next;rw[kU];omega
  rw[bZ,Ng L (l+1) _ o];show(bZ L l).tab c=some s\/_↔_;rw[ih c s];constructor
  ·rintro(⟨d,e,i,j⟩|⟨d,e,i⟩)
   ·exact⟨d,e,by omega,j⟩
   ·refine⟨d,by omega,by omega,?_⟩;rw[i,keyOf,e,sV];show 2*(bZ L l).next+_=_;rw[kU]
  ·rintro⟨d,e,i,j⟩;by_cases q:L[s]?.getD 0=l+1
   ·refine .inr ⟨d,q,?_⟩;rw[j,keyOf,q,sV];show _=2*(bZ L l).next+_;rw[kU]
   ·exact .inl ⟨d,e,by omega,j⟩
def Dx (L:aD)(hk:nx L 15<=65536)(s j:Nat)(hs:s<L.length)(y:1<=L[s]?.getD 0)(d:L[s]?.getD 0<=15)(x:1<=j)(o:j<L[s]?.getD 0):(aI L).tab (keyOf L s/2^(L[s]?.getD 0-j))=none:=by
 obtain⟨l,u⟩:∃l,L[s]?.getD 0=l+1:=⟨L[s]?.getD 0-1,by omega⟩
 have q:=BH L s hs y;have A:2*nx L l<=keyOf L s:=by unfold keyOf;rw[u,sV];omega
 rw[u]at q o d|-
 cases ht:(aI L).tab (keyOf L s/2^(l+1-j))with
 |none=>rfl
 |some t=>
  exfalso;obtain⟨D,F,M,G⟩:=(l8 L 15 _ t).1 ht;have I:=BH L t D F;have H:2*nx L (L[t]?.getD 0-1)<=keyOf L t:=by unfold keyOf;omega
  have C:∀i,i<=15->nx L i<=2^(i+1):=by
   intro i hi;have h:=GY L hi;have e:65536=2^(i+1)*2^(15-i):=(by rw[<-oZ,show i+1+(15-i)=16 by omega]);have z:nx L i*2^(15-i)<=2^(i+1)*2^(15-i):=(by omega);exact Nat.le_of_mul_le_mul_right z (nC (by omega))
  have r:nx L j<=keyOf L s/2^(l+1-j):=by
   rw[O7 (nC (by omega))];have h:=GY L (show j<=l by omega);rw[show l+1-j=(l-j)+1 by omega,gW,<-vK];omega
  have m:keyOf L s/2^(l+1-j)<2^(j+1):=by
   rw[Nat.div_lt_iff_lt_mul (nC (by omega)),<-oZ,show j+1+(l+1-j)=l+1+1 by omega];have:=C (l+1) d;omega
  rw[G]at r m;by_cases hi:L[t]?.getD 0<=j
  ·have:=Zw L hi;omega
  ·have J:=Zw L (show j<=L[t]?.getD 0-1 by omega);have K:=LC L j;rw[gW]at m;omega
def found (L:aD)(s:Nat)(hs:s<L.length)(e:1<=L[s]?.getD 0)(d:L[s]?.getD 0<=15):(aI L).tab (keyOf L s)=some s:=(l8 L 15 _ s).2 ⟨hs,e,d,rfl⟩
def wTo (L:aD)(l:Nat):Nat->Nat
 |0=>0
 |k+1=>wTo L l k+(if 1<=L[k]?.getD 0/\L[k]?.getD 0<=l then 2^(l-L[k]?.getD 0)else 0)
def a95 (L:aD)(l k:Nat):wTo L (l+1) k=2*wTo L l k+dY L (l+1) k:=by
 induction k with
 |zero=>simp[wTo,dY]
 |succ k ih=>
  rw[wTo,wTo,dY,ih];by_cases d:L[k]?.getD 0=l+1
  ·rw[aA d,aA (by omega),aB (by omega),d];simp;omega
  ·by_cases e:1<=L[k]?.getD 0/\L[k]?.getD 0<=l
   ·rw[aB d,aA e,aA (by omega),show l+1-L[k]?.getD 0=(l-L[k]?.getD 0)+1 by omega,gW];omega
   ·rw[aB d,aB e,aB (by omega)];omega
def Qo (L:aD)(l:Nat):nx L l=2^l+wTo L l L.length:=by
 induction l with
 |zero=>
  have:∀k,wTo L 0 k=0:=by
   intro k;induction k with
   |zero=>rfl
   |succ k ih=>rw[wTo,ih,aB (by omega)]
  simp[nx,this]
 |succ l ih=>rw[nx,ih,a95,gW];omega
def OB (L:aD)(h:∀i:Nat,L[i]?.getD 0<=15)(k:Nat):wTo L 15 k=iD L k:=by
 induction k with
 |zero=>rfl
 |succ k ih=>
  rw[wTo,iD,ih];by_cases d:0<L[k]?.getD 0
  ·rw[aA d,aA ⟨d,h k⟩,show(32768:Nat)=2^15 by rfl,Nat.pow_div (h k) (by omega)]
  ·rw[aB d,aB (by omega)]
def room (L:aD)(h:∀i:Nat,L[i]?.getD 0<=15)(d:fF L=true):nx L 15<=65536:=by rw[Qo,OB L h];unfold fF at d;simp only[Bool.or_eq_true,DI,dI]at d;omega
def U9 (L:aD)(l:Nat)(st:d9)(k s:Nat)(hs:s<k)(e:L[s]?.getD 0=l):(bR L l st k).longest=l:=by
 induction k with
 |zero=>omega
 |succ k ih=>
  rw[bR];split
  ·rfl
  ·rename_i hk;by_cases d:s=k
   ·subst d;exact absurd e hk
   ·exact ih (by omega)
def I4 (L:aD)(l:Nat)(st:d9)(k:Nat):(bR L l st k).longest=st.longest\/(bR L l st k).longest=l:=by
 induction k with
 |zero=>exact .inl rfl
 |succ k ih=>
  rw[bR];split
  ·exact .inr rfl
  ·exact ih
def SX (L:aD)(l s:Nat)(hs:s<L.length)(e:1<=L[s]?.getD 0)(i:L[s]?.getD 0<=l):L[s]?.getD 0<=(bZ L l).longest:=by
 induction l with
 |zero=>omega
 |succ l ih=>
  rw[bZ];by_cases hh:L[s]?.getD 0=l+1
  ·rw[U9 L (l+1) _ L.length s hs hh];omega
  ·have d:=ih (by omega);rcases I4 L (l+1) ⟨2*(bZ L l).next,(bZ L l).tab,(bZ L l).longest⟩ L.length with h|h
   ·rw[h];exact d
   ·rw[h];omega
def bC (bs:List Bool)(p:Nat)(l:List Bool):Prop:=∀i,i<l.length->bs[p+i]? =l[i]?
def bC.left {d:List Bool}{a b:List Bool}(h:bC d p (a++b)):bC d p a:=fun i hi=>by
 have:=h i (by simp;omega)
 rw[this,jA hi]
def bC.right {d:List Bool}{a b:List Bool}(h:bC d p (a++b)):bC d (p+a.length) b:=fun i hi=>by
 have:=h (a.length+i) (by simp;omega)
 rw[iV,this,kZ (by omega)]
 simp
def Bj {d:List Bool}(j:bQ d B){l:List Bool}(h:bC d p l)(i:Nat)(hi:i<l.length)(x:Nat)(m:l[i]? =some (decide (x%2=1))):bK B (p+i)=x%2:=by rw[j.bit,h i hi,m];rcases JO x with e|e<;>simp[e]
def mR {d:List Bool}(m:bQ d B)(p x n:Nat)(h:bC d p (numBits x n)):aG B p n=x%2^n:=by
 induction n with
 |zero=>simp[aG,Nat.mod_one]
 |succ n ih=>
  have e:=uX x n;rw[e]at h;have l:=ih h.left;have i:=h.right;rw[aM]at i;have j:=Bj m i 0 (by simp) (x/2^n) rfl;rw[lN]at j;rw[aG,l,j,gW,Nat.mod_mul];rw[nH]
def Bf {j:List Bool}(s:bQ j B)(p x n k:Nat)(y:x<2^n)(hk:k<=n)(h:bC j p (rH x n k)):bU B p k=(2^n+x)/2^(n-k):=by
 induction k with
 |zero=>
  rw[bU,Nat.sub_zero];have:(2^n+x)/2^n=1:=by
   rw[Nat.add_div_left _ (nC (by omega)),Nat.div_eq_of_lt y]
  rw[this]
 |succ k ih=>
  have e:=MB x n k;rw[e]at h;have r:=ih (by omega) h.left;have l:=h.right;rw[xE]at l;have o:=Bj s l 0 (by simp) (x/2^(n-1-k)) rfl;rw[lN]at o;rw[bU,r,o];obtain⟨m,u⟩:∃m,n-k=m+1:=⟨n-k-1,by omega⟩
  have d:n-1-k=m:=by omega
  have i:n-(k+1)=m:=by omega
  rw[u,d,i];have q:(2^n+x)/2^(m+1)=(2^n+x)/2^m/2:=by rw[gW,Nat.div_div_eq_div_mul]
  have e3:(2^n+x)/2^m%2=x/2^m%2:=by
   have:2^n=2^m*(2*2^k):=by
    rw[show n=m+(1+k) by omega,oZ,oZ]
   rw[this,Nat.mul_add_div (nC (by omega)),Nat.add_mod,Nat.mul_mod_right,dS,Nat.mod_mod]
  rw[q,<-e3];omega
end Go.dM
