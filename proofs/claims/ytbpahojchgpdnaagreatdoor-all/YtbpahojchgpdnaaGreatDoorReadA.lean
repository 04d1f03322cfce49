import Derived.Test.YtbpahojchgpdnaaGreatDoorGzipB
set_option maxRecDepth 20000
set_option maxHeartbeats 4000000
set_option linter.all false
namespace Go.dM
open Go Go.RowKit Go.Proofs.YtbpahojchgpdnaaGreatDoor
variable {D N0 base cap d e f g hz n off p t z:Nat} {B Bd out ys:aD} {w w':aH} {A:Array aK} {v vo:aK}
structure qH (B B':aD)(k:Nat):Prop where
 whole:k%8=0
 fits:k+8*B'.length<=8*B.length
 get:∀i,i<B'.length->B[k/8+i]?.getD 0=B'[i]?.getD 0
def qH.part (H B' Y:aD):qH (H++(B'++Y)) B' (8*H.length):=⟨by omega,by simp;omega,fun i hi=>by rw[show 8*H.length/8+i=H.length+i by omega,kZ (by omega),CB,jA hi]⟩
variable {B B':aD} {k:Nat}
def qH.bit (h:qH B B' k)(hp:p<8*B'.length):bK B (p+k)=bK B' p:=by have a:=h.whole;unfold bK;rw[show(p+k)/8=k/8+p/8 by omega,show(p+k)%8=p%8 by omega,h.get _ (by omega)]
def qH.num (h:qH B B' k):∀{n p:Nat},p+n<=8*B'.length->aG B (p+k) n=aG B' p n:=by
 intro n;induction n with
 |zero=>intro p _;rfl
 |succ n ih=>
  intro p hp;rw[aG,aG,ih (by omega),show p+k+n=p+n+k by omega,h.bit (by omega)]
def qH.key (h:qH B B' k):∀{n p:Nat},p+n<=8*B'.length->bU B (p+k) n=bU B' p n:=by
 intro n;induction n with
 |zero=>intro p _;rfl
 |succ n ih=>
  intro p hp;rw[bU,bU,ih (by omega),show p+k+n=p+n+k by omega,h.bit (by omega)]
def qH.fs (h:qH B B' k)(i:Nat):∀{c p:Nat},p+3*c<=8*B'.length->wI B (p+k) c i=wI B' p c i:=by
 intro c;induction c with
 |zero=>intro p _;rfl
 |succ c ih=>
  intro p hp;rw[wI,wI,ih (by omega),show p+k+3*c=p+3*c+k by omega,h.num (by omega)]
def qH.firsts (h:qH B B' k){c:Nat}(hp:p+3*c<=8*B'.length):bD B (p+k) c=bD B' p c:=by unfold bD;exact IY fun i _=>h.fs i hp
def R.sh {α:Type}(k:Nat):R α->R α
 | .ok a q=> .ok a (q+k)
 | .no e=> .no e
 | .miss=> .miss
def GS.sh (k:Nat)(s:GS):GS:={ s with p:=s.p+k }
def G.sh (k:Nat):G->G
 | .go s=> .go (s.sh k)
 | .no e out=> .no e out
 | .miss=> .miss
def Mw (h:qH B B' k)(D:d9)(p:Nat):∀r j,jN D B' p r j= .miss\/jN D B (p+k) r j=(jN D B' p r j).sh k:=by
 have b:=h.fits;intro r;induction r with
 |zero=>intro j;exact .inr rfl
 |succ r ih=>
  intro j;by_cases a:p+j<8*B'.length
  ·rw[jN,jN,aA a,aA (by omega),h.key (by omega)];cases D.tab (bU B' p (j+1))with
   |some s=>exact .inr (by simp only[R.sh];congr 1;omega)
   |none=>exact ih (j+1)
  ·left;rw[jN,aB a]
def KI (h:qH B B' k)(D:d9)(p:Nat):lC D B' p= .miss\/lC D B (p+k)=(lC D B' p).sh k:=Mw h D p _ _
def Ju (h:qH B B' k)(q s:Nat)(row:aD):fO B' q s row= .miss\/fO B (q+k) s row=(fO B' q s row).sh k:=by
 have j:=h.fits;unfold fO;by_cases a:s<16
 ·right;rw[aA a,aA a];rfl
 ·rw[aB a,aB a];have one:∀(n x z:Nat),(if q+n<=8*B'.length then R.ok (x,aG B' q n+z) (q+n)else .miss)= .miss\/(if q+k+n<=8*B.length then R.ok (x,aG B (q+k) n+z) (q+k+n)else .miss)=(if q+n<=8*B'.length then R.ok (x,aG B' q n+z) (q+n)else .miss).sh k:=by
   intro n x z;by_cases i:q+n<=8*B'.length
   ·right;rw[aA i,aA (by omega),h.num i];simp only[R.sh];congr 1;omega
   ·left;rw[aB i]
  by_cases b:s=16
  ·rw[aA b,aA b];exact one 2 _ _
  ·rw[aB b,aB b];by_cases c:s=17
   ·rw[aA c,aA c];exact one 3 _ _
   ·rw[aB c,aB c];exact one 7 _ _
def Jb (h:qH B B' k)(D:d9)(n:Nat):∀m p row,iC D B' n m p row= .miss\/iC D B n m (p+k) row=(iC D B' n m p row).sh k:=by
 intro m;induction m with
 |zero=>intro p row;exact .inr rfl
 |succ m ih=>
  intro p row;rw[iC,iC];by_cases a:n<=row.length
  ·right;rw[aA a,aA a];rfl
  ·rw[aB a,aB a];rcases KI h D p with i|i
   ·left;rw[i]
   ·rw[i];cases lC D B' p with
    |no e=>exact .inr rfl
    |miss=>exact .inl rfl
    |ok s q=>
     simp only[R.sh];by_cases b:s=16/\row.length=0
     ·right;rw[aA b,aA b]
     ·rw[aB b,aB b];rcases Ju h q s row with j|j
      ·left;rw[j]
      ·rw[j];cases fO B' q s row with
       |no e=>exact .inr rfl
       |miss=>exact .inl rfl
       |ok lt q'=>
        simp only[R.sh];by_cases c:n<row.length+lt.2
        ·right;rw[aA c,aA c]
        ·rw[aB c,aB c];exact ih q' _
def YC (h:qH B B' k)(p:Nat):bW B' p= .miss\/bW B (p+k)=(bW B' p).sh k:=by
 have o:=h.fits;unfold bW;by_cases j:p+14<=8*B'.length
 ·rw[aA j,aA (show p+k+14<=8*B.length by omega)];have l:aG B (p+k) 5=aG B' p 5:=h.num (by omega);have m:aG B (p+k+5) 5=aG B' (p+5) 5:=by rw[show p+k+5=p+5+k by omega];exact h.num (by omega)
  have e3:aG B (p+k+10) 4=aG B' (p+10) 4:=by rw[show p+k+10=p+10+k by omega];exact h.num (by omega)
  dsimp only;rw[l,m,e3];by_cases a:286<aG B' p 5+257\/30<aG B' (p+5) 5+1
  ·right;rw[aA a,aA a];rfl
  ·rw[aB a,aB a];by_cases c:p+14+3*(aG B' (p+10) 4+4)<=8*B'.length
   ·rw[aA c,aA (show p+k+14+3*(aG B' (p+10) 4+4)<=8*B.length by omega),show p+k+14=p+14+k by omega,h.firsts c];by_cases b:fF (bD B' (p+14) (aG B' (p+10) 4+4))=true
    ·rw[aA b,aA b,show p+14+k+3*(aG B' (p+10) 4+4)=p+14+3*(aG B' (p+10) 4+4)+k by omega];unfold NM;rcases Jb h (aI (bD B' (p+14) (aG B' (p+10) 4+4))) (aG B' p 5+257+(aG B' (p+5) 5+1)) (aG B' p 5+257+(aG B' (p+5) 5+1)) (p+14+3*(aG B' (p+10) 4+4)) []with i|i
     ·left;rw[i]
     ·rw[i];cases iC (aI (bD B' (p+14) (aG B' (p+10) 4+4))) B' (aG B' p 5+257+(aG B' (p+5) 5+1)) (aG B' p 5+257+(aG B' (p+5) 5+1)) (p+14+3*(aG B' (p+10) 4+4)) []with
      |no e=>exact .inr rfl
      |miss=>exact .inl rfl
      |ok row q=>
       right;simp only[R.sh];unfold pI;split<;>rfl
    ·right;rw[aB b,aB b];rfl
   ·left;rw[aB c]
 ·left;rw[aB j]
def Aa (h:qH B B' k)(q c:Nat):eF B' q c= .miss\/eF B (q+k) c=(eF B' q c).sh k:=by
 have l:=h.fits;unfold eF;by_cases a:285<c
 ·right;rw[aA a,aA a];rfl
 ·rw[aB a,aB a];by_cases b:c=285
  ·right;rw[aA b,aA b];rfl
  ·rw[aB b,aB b];by_cases i:c<265
   ·right;rw[aA i,aA i];rfl
   ·rw[aB i,aB i];by_cases j:q+(c-261)/4<=8*B'.length
    ·right;rw[aA j,aA (by omega),h.num j];simp only[R.sh];congr 1;omega
    ·left;rw[aB j]
def Ko (h:qH B B' k)(D:d9)(q:Nat):iQ D B' q= .miss\/iQ D B (q+k)=(iQ D B' q).sh k:=by
 have j:=h.fits;unfold iQ;rcases KI h D q with c|c
 ·left;rw[c]
 ·rw[c];cases lC D B' q with
  |no e=>exact .inr rfl
  |miss=>exact .inl rfl
  |ok s q'=>
   simp only[R.sh];by_cases a:30<=s
   ·right;rw[aA a,aA a]
   ·rw[aB a,aB a];by_cases b:s<4
    ·right;rw[aA b,aA b]
    ·rw[aB b,aB b];by_cases i:q'+(s/2-1)<=8*B'.length
     ·right;rw[aA i,aA (by omega),h.num i];simp only;congr 1;omega
     ·left;rw[aB i]
def DF (s:GS)(xs:aD)(p:Nat):mM (s.sh k) xs (p+k)=(mM s xs p).sh k:=by
 unfold mM;by_cases h:s.out.length+xs.length<=s.most
 ·rw[aA h,aA (by exact h)];rfl
 ·rw[aB h,aB (by exact h)];rfl
def I9 (a:k%8=0)(s:GS)(p:Nat):(s.sh k).ended (p+k)=(s.ended p).sh k:=by
 unfold GS.ended GS.sh;simp only;cases s.last
 ·rfl
 ·simp only[if_true];congr 1;omega
def Lf (h:qH B B' k)(s:GS)(c q:Nat):gCopy B' s c q= .miss\/gCopy B (s.sh k) c (q+k)=(gCopy B' s c q).sh k:=by
 unfold gCopy;rcases Aa h q c with i|i
 ·left;rw[i]
 ·rw[i];cases eF B' q c with
  |no e=>exact .inr rfl
  |miss=>exact .inl rfl
  |ok n l=>
   simp only[R.sh];rcases Ko h (aI s.ld) l with j|j
   ·left;rw[j]
   ·rw[show(s.sh k).ld=s.ld from rfl,j];cases iQ (aI s.ld) B' l with
    |no e=>exact .inr rfl
    |miss=>exact .inl rfl
    |ok a m=>
     simp only[R.sh];rw[show(s.sh k).out=s.out from rfl];by_cases b:s.out.length<a
     ·right;rw[aA b,aA b];rfl
     ·right;rw[aB b,aB b];exact DF s _ _
def Rm (h:qH B B' k)(s:GS):uF B' s= .miss\/uF B (s.sh k)=(uF B' s).sh k:=by
 unfold uF;rw[show(s.sh k).ls=s.ls from rfl,show(s.sh k).p=s.p+k from rfl];rcases KI h (aI s.ls) s.p with i|i
 ·left;rw[i]
 ·rw[i];cases lC (aI s.ls) B' s.p with
  |no e=>exact .inr rfl
  |miss=>exact .inl rfl
  |ok c q=>
   simp only[R.sh];by_cases a:c<256
   ·right;rw[aA a,aA a];exact DF s _ _
   ·rw[aB a,aB a];by_cases b:c=256
    ·right;rw[aA b,aA b,I9 h.whole];rfl
    ·rw[aB b,aB b];exact Lf h s c q
def Kr (h:qH B B' k)(s:GS):nO B' s= .miss\/nO B (s.sh k)=(nO B' s).sh k:=by
 have c:=h.fits;unfold nO;rw[show(s.sh k).left=s.left from rfl,show(s.sh k).p=s.p+k from rfl];by_cases a:s.left=0
 ·right;rw[aA a,aA a,I9 h.whole];rfl
 ·rw[aB a,aB a];by_cases b:s.p+8<=8*B'.length
  ·right;rw[aA b,aA (by omega),h.num b,show s.p+k+8=s.p+8+k by omega];exact DF { s with left:=s.left-1 } _ _
  ·left;rw[aB b]
def Mi (h:qH B B' k)(s:GS):kL B' s= .miss\/kL B (s.sh k)=(kL B' s).sh k:=by
 have u:=h.fits;have r:=h.whole;unfold kL;rw[show(s.sh k).p=s.p+k from rfl,show(s.sh k).out=s.out from rfl];by_cases j:s.p+3<=8*B'.length
 ·rw[aA j,aA (show s.p+k+3<=8*B.length by omega)];have l:aG B (s.p+k+1) 2=aG B' (s.p+1) 2:=by rw[show s.p+k+1=s.p+1+k by omega];exact h.num (by omega)
  have m:bK B (s.p+k)=bK B' s.p:=h.bit (by omega);rw[l,m];by_cases c:aG B' (s.p+1) 2=0
  ·rw[aA c,aA c,show(s.p+k+3+7)/8*8=(s.p+3+7)/8*8+k by omega];by_cases b:(s.p+3+7)/8*8+32<=8*B'.length
   ·right;rw[aA b,aA (show(s.p+3+7)/8*8+k+32<=8*B.length by omega),show(s.p+3+7)/8*8+k+16=(s.p+3+7)/8*8+16+k by omega,h.num (by omega),h.num (by omega)];by_cases a:aG B' ((s.p+3+7)/8*8+16) 16=65535-aG B' ((s.p+3+7)/8*8) 16
    ·rw[aA a,aA a,show(s.p+3+7)/8*8+k+32=(s.p+3+7)/8*8+32+k by omega];rfl
    ·rw[aB a,aB a];rfl
   ·left;rw[aB b]
  ·rw[aB c,aB c];by_cases b:aG B' (s.p+1) 2=1
   ·right;rw[aA b,aA b,show s.p+k+3=s.p+3+k by omega];rfl
   ·rw[aB b,aB b];by_cases a:aG B' (s.p+1) 2=2
    ·rw[aA a,aA a,show s.p+k+3=s.p+3+k by omega];rcases YC h (s.p+3)with i|i
     ·left;rw[i]
     ·rw[i];cases bW B' (s.p+3)with
      |no e=>exact .inr rfl
      |miss=>exact .inl rfl
      |ok o q=>exact .inr rfl
    ·right;rw[aB a,aB a];rfl
 ·left;rw[aB j]
def FN (h:qH B B' k)(s:GS):bM B' s= .miss\/bM B (s.sh k)=(bM B' s).sh k:=by
 unfold bM;rw[show(s.sh k).place=s.place from rfl];by_cases a:s.place=1
 ·rw[aA a,aA a];exact Kr h s
 ·rw[aB a,aB a];by_cases b:s.place=2
  ·rw[aA b,aA b];exact Rm h s
  ·rw[aB b,aB b];exact Mi h s
def QW {s:GS}{xs:aD}:(∀a,mM s xs p= .go a->s.out <+:a.out)/\(∀e out,mM s xs p= .no e out->s.out <+:out):=by
 unfold mM;by_cases h:s.out.length+xs.length<=s.most
 ·rw[aA h];exact⟨fun a e=>by injection e with e;subst e;exact List.prefix_append _ _,fun e out x=>by simp at x⟩
 ·rw[aB h];exact⟨fun a e=>by simp at e,fun e out x=>by injection x with c b;subst b;exact List.prefix_append _ _⟩
def WJ (B:aD)(s:GS):(∀a,bM B s= .go a->s.out <+:a.out)/\(∀e out,bM B s= .no e out->s.out <+:out):=by
 have same:∀x:G,(x= .miss\/(∃e,x= .no e s.out)\/∃a,x= .go a/\a.out=s.out)->(∀a,x= .go a->s.out <+:a.out)/\(∀e out,x= .no e out->s.out <+:out):=by
  rintro x (rfl|⟨e,rfl⟩|⟨a,rfl,h⟩)
  ·exact⟨fun a e=>by simp at e,fun e out x=>by simp at x⟩
  ·exact⟨fun a e=>by simp at e,fun e out x=>by injection x with i b;subst b;exact OT _⟩
  ·exact⟨fun c e=>by injection e with e;subst e;rw[h];exact OT _,fun e out x=>by simp at x⟩
 unfold bM;split
 ·unfold nO;split
  ·exact same _ (.inr (.inr ⟨_,rfl,rfl⟩))
  ·split
   ·exact QW (s:={ s with left:=s.left-1 })
   ·exact same _ (.inl rfl)
 ·split
  ·unfold uF;split
   ·exact same _ (.inr (.inl ⟨_,rfl⟩))
   ·exact same _ (.inl rfl)
   ·split
    ·exact QW
    ·split
     ·exact same _ (.inr (.inr ⟨_,rfl,rfl⟩))
     ·unfold gCopy;split
      ·exact same _ (.inr (.inl ⟨_,rfl⟩))
      ·exact same _ (.inl rfl)
      ·split
       ·exact same _ (.inr (.inl ⟨_,rfl⟩))
       ·exact same _ (.inl rfl)
       ·split
        ·exact same _ (.inr (.inl ⟨_,rfl⟩))
        ·exact QW
  ·unfold kL;split
   ·split
    ·split
     ·split
      ·exact same _ (.inr (.inr ⟨_,rfl,rfl⟩))
      ·exact same _ (.inr (.inl ⟨_,rfl⟩))
     ·exact same _ (.inl rfl)
    ·split
     ·exact same _ (.inr (.inr ⟨_,rfl,rfl⟩))
     ·split
      ·split
       ·exact same _ (.inr (.inr ⟨_,rfl,rfl⟩))
       ·exact same _ (.inr (.inl ⟨_,rfl⟩))
       ·exact same _ (.inl rfl)
      ·exact same _ (.inr (.inl ⟨_,rfl⟩))
   ·exact same _ (.inl rfl)
def eZ.begins {s:GS}{q:Nat}(h:eZ B n s e out q):s.out <+:out:=by
 induction h with
 |done s h=>exact OT _
 |no s e out a h=>exact(WJ B s).2 _ _ h
 |miss s a h=>exact OT _
 |go n s b e out q a h k ih=>exact((WJ B s).1 _ h).trans ih
inductive rF (B:aD):Nat->GS->GS->Prop
 |here (s:GS) (h3:s.place≠3) (h:bM B s= .miss):rF B 0 s s
 |go (n:Nat) (s s1 s2:GS) (h3:s.place≠3) (h:bM B s= .go s1) (k:rF B n s1 s2):rF B (n+1) s s2
def ao7 {s:GS}{q:Nat}(h:eZ B n s e out q):(∃m s',rF B m s s'/\e=3/\out=s'.out/\q=0)\/e≠3\/∃s' x,bM B s'= .no 3 x:=by
 induction h with
 |done s h=>exact .inr (.inl (by omega))
 |no s e out c h=>
  by_cases i:e=3
  ·subst i;exact .inr (.inr ⟨s,out,h⟩)
  ·exact .inr (.inl i)
 |miss s c h=>exact .inl ⟨0,s, .here s c h,rfl,rfl,rfl⟩
 |go n s j e out q c h k ih=>
  rcases ih with⟨m,s',a,b⟩|ih
  ·exact .inl ⟨m+1,s', .go m s j s' c h a,b⟩
  ·exact .inr ih
def rF.run {s s':GS}(h:rF B n s s'):∃m,eZ B m s 3 s'.out 0:=by
 induction h with
 |here s a h=>exact⟨_, .miss s a h⟩
 |go n s c i a h k ih=>
  obtain⟨m,b⟩:=ih;exact⟨_, .go m s c 3 _ 0 a h b⟩
def rF.miss {s s':GS}(h:rF B n s s'):s'.place≠3/\bM B s'= .miss:=by
 induction h with
 |here s a h=>exact⟨a,h⟩
 |go n s b c a h k ih=>exact ih
def rF.on {B':aD}{k:Nat}{s s':GS}(hs:qH B B' k)(h:rF B' n s s'):∀{m e:Nat} {out:aD} {q:Nat},eZ B m (s'.sh k) e out q->∃b,eZ B b (s.sh k) e out q:=by
 induction h with
 |here s c h=>exact fun h=>⟨_,h⟩
 |go n s l o c h _ ih=>
  intro m e out q j;obtain⟨b,i⟩:=ih j;rcases FN hs s with a|a
  ·rw[h]at a;cases a
  ·rw[h]at a;exact⟨_, .go b (s.sh k) (l.sh k) e out q c a i⟩
def RU {s:GS}(l:Bool)(a:s.place≠1)(b:s.place≠2):bM B { s with last:=l }=bM B s:=by unfold bM;rw[aB a,aB b,aB a,aB b];rfl
def Tn {s:GS}{q:Nat}(l:Bool)(c:s.place≠1)(i:s.place≠2)(a:s.place≠3)(h:eZ B n s e out q):eZ B n { s with last:=l } e out q:=by
 have b:=RU (B:=B) (s:=s) l c i;cases h with
 |done _ h=>exact absurd h a
 |no _ e out _ h=>exact .no _ e out a (b.trans h)
 |miss _ _ h=>exact .miss { s with last:=l } a (b.trans h)
 |go n _ j e out q _ h k=>exact .go n _ j e out q a (b.trans h) k
end Go.dM
namespace Go.Proofs.YtbpahojchgpdnaaGreatDoor
open Go.RowKit Go.dM Go.Maps Go.Proofs.Tryz
variable {D N0 base cap d e f g hz n off p t z:Nat} {B Bd out ys:aD} {w w':aH} {A:Array aK} {v vo:aK}
def KC (s s':GS):Prop:=∃l,(s.place=1\/s.place=2->l=s.last)/\s'={ s with last:=l }
def Gc {s s':GS}(h:rF B n s s'):s'.taken=s.taken:=by
 induction h with
 |here s a h=>rfl
 |go n s b c a h k ih=>exact ih.trans (ME h)
def a10 (d f base g off cap z n:Nat)(B:aD)(s s':GS)(v:aK)(w:aH)(L:dJ w d f base g off cap z B s v)(P:rF B n s s'):Calls prog 117 #[E d] w fun r w'=>r= .returned (V 3)/\∃c G,KC s' c/\dJ w' d f base g off cap z B c G/\fC d f w v w' G:=by
 have N:=ar9;go_enter func117,ntmps117;go_wp2_with fail;go_loopg [4] n (fun k u wr=>∃b v1,dJ wr d f base g off cap z B b v1/\rF B k b s'/\fC d f w v wr v1);case atStart=>exact⟨s,v,L,P,fC.refl _ _ _ _⟩
 case round=>
  obtain⟨b,v1,F,J,i⟩:=hrel;obtain⟨R,c3,_⟩:=F.place;have a:=Pm d f base g off cap z B b v1 wr F;have x:(b=s'/\b.place≠3/\bM B b= .miss)\/∃m c,gk=m+1/\b.place≠3/\bM B b= .go c/\rF B m c s':=by
   cases J with
   |here _ i h=>exact .inl ⟨rfl,i,h⟩
   |go m _ c _ i h k=>exact .inr ⟨m,c,rfl,i,h,k⟩
  rcases x with⟨rfl,hp,y⟩|⟨m,c,hk,hp,y,k2⟩
  ·have C:((b.place:Int) !=3)=true:=(by rw[jP];omega);rw[y]at a;go_wp2_with fail;apply a.mono;rintro r w2 ⟨rfl,l,j,q,K⟩;have I:=hide (i.trans K);go_wp2_with fail;go_ret;exact⟨rfl,_,v1,⟨l,j,rfl⟩,q,I.o⟩
  ·have C:((b.place:Int) !=3)=true:=(by rw[jP];omega);rw[y]at a;have M:m<gk:=(by omega);go_wp2_with fail;apply a.mono;rintro r w2 ⟨rfl,Q,j,q⟩;have H:=hide (i.trans q);go_wp2_with fail;go_roundg m;case measure=>omega
   case rel=>exact⟨_,Q,j,k2,H.o⟩
structure Qs (d f base g off cap z:Nat)(B:aD)(s':GS)(v vo:aK)(w w':aH):Prop where
 ex:∃s2 v',KC s' s2/\dJ w' d f base g off cap z B { s2 with taken:=s2.out.length } v'/\fC d f w v w' v'/\Apart vo v'
def ZK (d f base g off cap z n:Nat)(B:aD)(s s':GS)(v:aK)(w:aH)(Y:dJ w d f base g off cap z B s v)(M:rF B n s s'):Calls prog 74 #[E d] w fun r w'=>∃vo,r= .returned (.tuple #[vo,V 3])/\Qs d f base g off cap z B s' v vo w w'/\Taken w' w.heap.size vo (s'.out.drop s.taken):=by
 have x:=a10 d f base g off cap z n B s s' v w Y M;have F:=Gc M;go_enter func74,ntmps74;go_wp2_with fail;apply x.mono;rintro r w1 ⟨rfl,G,v1,q,a,m⟩;obtain⟨st,hv,u,H,P,e3,Q,R,S,T,W,X⟩:=a.ex;have Z:=H.le;have aa:=a.most;have ab:=a.room;have C:=Dv d f base st w1 u.dec (by omega) H.kept;rw[QJ H]at C;have y:G.out=s'.out/\G.taken=s.taken:=by
  obtain⟨l,_,rfl⟩:=q;exact⟨rfl,F⟩
 have j:=hide (show∀w' c vo,Dec w' d f base (oP st c)->dH d w1 st.v w' c->Apart vo c->Qs d f base g off cap z B s' v vo w w' from fun w' c vo J I i=>by
  have b:fC d f w1 v1 w' c:=by rw[<-hv];exact fC.xH (f:=f) I
  refine⟨G,c,q,a.after (s':={ G with taken:=G.out.length }) (st:=oP st c) (u.put J I) b rfl (sG.take H c) P e3 Q R S T (W.step b) (fun hp=>(X hp).step b rfl rfl rfl rfl) rfl a.room a.left a.bits,m.trans b,i⟩)
 have K:=m.step.size;go_wp2_with fail;apply C.mono;rintro r w2 ⟨vo,c,rfl,ht,J,I,i⟩;have N:=hide (j.o w2 c vo J I i);have HB:=hide (show Taken w2 w.heap.size vo (s'.out.drop s.taken) by
  have L:=ht.mono K;rw[y.1,y.2]at L;exact L)
 go_wp2_with fail;go_ret2;exact⟨vo,rfl,N.o,HB.o⟩
def ad6 {q:Nat}{st:iH}(a:mF w d f base g off cap z B st q)(l:w.heap[D]? =some (.cells A t (0,0)))(o:t≠128)(r:t≠91)(s:t≠5)(y:t≠125):d≠D/\f≠D/\(∀k,st.v.ownBlock=some k->k≠D)/\(∀mb M,TabAt w mb M->mb≠D)/\(∀c b,w.heap[c]? =some (.cells b 125 (0,0))->c≠D):=by
 have key:∀(k:Nat) (b:Array aK) (u:TypeId),w.heap[k]? =some (.cells b u (0,0))->t≠u->k≠D:=fun k b u hk m x=>by
  rw[x,l]at hk;simp only[fH,uK]at hk;exact m hk.2.1
 refine⟨key _ _ _ a.dec.blk o,key _ _ _ a.feed r,fun k hk=> ?_,fun mb M i x=> ?_,fun c b i=>key _ _ _ i y⟩
 ·obtain⟨_,⟨j,_⟩|⟨G,_,_,j,_,hh,_⟩⟩:=a.dec.own
  ·rw[j]at hk;simp[Value.ownBlock]at hk
  ·rw[j]at hk;simp only[Value.ownBlock,fH]at hk;subst hk;exact key _ _ _ hh s
 ·obtain⟨_,_,_,⟨F,C,hh,_⟩,_⟩:=i;rw[x,l]at hh;simp at hh
def dJ.other {s:GS}(h:dJ w d f base g off cap z B s v)(hs:Step (·=D) w w')(P:w.heap[D]? =some (.cells A t (0,0)))(S:t≠128)(T:t≠91)(W:t≠5)(X:t≠125)(Q:g≠D)(Y:4<=D):dJ w' d f base g off cap z B s v:=by
 obtain⟨st,rfl,a,y,C,e3,F,G,H,I,m,J⟩:=h.ex;obtain⟨n1,n2,n3,j,R⟩:=ad6 a P S T W X;have c:mF w' d f base g off cap z B st s.p:=⟨a.dec.other (hs.block d (aO a.dec.blk) n1) (fun k hk=>hs.block k (a.dec.own.lt k hk).2 (n3 k hk)) hs.size,hs.at_ a.feed n2,a.src.step hs Q,a.af9,nM a.glt hs.size⟩
 refine⟨⟨st,rfl,c,y,C,e3,F,G,H,I,?_,fun i=> ?_⟩,h.order.step hs (fun k hk x=>by omega),h.zero,bB h.zlt hs.size,h.most,h.room,h.left,h.bits⟩
 ·rcases m with m|⟨o,m1,m2,K,i,q,r,L,M,N⟩
  ·exact .inl m
  ·exact .inr ⟨o,m1,m2,K,hs.at_ i (R o _ i),q.step hs (j _ _ q),r.step hs (j _ _ r),L,M,N⟩
 ·have b:=J i;obtain⟨mb,a1,a2,u⟩:=b.sm;obtain⟨x,l,b2⟩:=b.dm;refine⟨⟨mb,a1,a2.step hs (j _ _ a2),u⟩,b.sl,⟨x,l,?_⟩,b.dl,b.sn,b.dn⟩;rcases b2 with b2|⟨m2,c1,c2,c3⟩
  ·exact .inl b2
  ·exact .inr ⟨m2,c1,c2.step hs (j _ _ c2),c3⟩
structure WM (d f base g off cap z:Nat)(B:aD)(s':GS)(v vo:aK)(S:Nat->Prop)(w w':aH):Prop where
 ex:∃s2 v',KC s' s2/\dJ w' d f base g off cap z B { s2 with taken:=s2.out.length } v'/\Step (fun k=>S k\/k=d\/k=f\/v.ownBlock=some k) w w'/\(∀k,v'.ownBlock=some k->v.ownBlock=some k\/w.heap.size<=k)/\Apart vo v'
def Qs.q {s':GS}(h:Qs d f base g off cap z B s' v vo w w')(S:Nat->Prop):WM d f base g off cap z B s' v vo S w w':=by obtain⟨j,l,b,c,a,i⟩:=h.ex;exact⟨j,l,b,c,a.step.mono (fun k hk=> .inr hk),a.own,i⟩
def WM.set {s':GS}(h:WM d f base g off cap z B s' v vo (·=D) w w')(q:w'.heap[D]? =some (.cells A 96 (0,0)))(a:g≠D)(o:4<=D)(i n:Nat)(u:aK):WM d f base g off cap z B s' v vo (·=D) w ((w'.setCell (U D i) u).drewN n):=by obtain⟨r,s,b,c,j,l,m⟩:=h.ex;have hs:Step (·=D) w' ((w'.setCell (U D i) u).drewN n):=((aU (·=D) w').setCell (p:=(U D i)) rfl u).drewN n;exact⟨r,s,b,c.other hs q (by decide) (by decide) (by decide) (by decide) a o,j.trans (hs.mono (fun k hk=> .inl hk)),l,m⟩
def Ww (D d f base g off cap z n:Nat)(parts:aK)(nm:bY)(B:aD)(s s':GS)(v:aK)(w:aH)(y:gQ w D f d parts (.slice none 0 0) nm)(F:tK d f v D)(C:4<=D)(G:g≠D)(K:dJ w d f base g off cap z B s v)(L:rF B n s s'):Calls prog 50 #[E D] w fun r w'=>r= .returned (.tuple #[.bool false,V 3])/\∃vo,gQ w' D f d parts vo nm/\WM d f base g off cap z B s' v vo (·=D) w w'/\Taken w' w.heap.size vo (s'.out.drop s.taken):=by
 have k1:=(show w.cell? (U D 1)=some (E d) from aC y 1 _ rfl)
 have l:=ZK d f base g off cap z n B s s' v w K L;have J:=aO y;go_enter func50,ntmps50;go_wp2_with fail;apply l.mono;rintro r w1 ⟨vo,rfl,c,m⟩;obtain⟨N,P,u⟩:=m.slice;have i:=c.q (·=D);have a:gQ w1 D f d parts (.slice none 0 0) nm:=by
  obtain⟨W,X,Q,R,H,_⟩:=c.ex;exact H.step.at_ y F.not
 have b:=hide (show∀k,gQ ((w1.setCell (U D 3) vo).drewN k) D f d parts vo nm/\WM d f base g off cap z B s' v vo (·=D) w ((w1.setCell (U D 3) vo).drewN k)/\Taken ((w1.setCell (U D 3) vo).drewN k) w.heap.size vo (s'.out.drop s.taken) from fun k=>⟨by
  have I:=aV a 3 vo;simpa[World.drewN]using I,i.set a G C 3 k vo,m.step (((aU (·=D) w1).setCell (p:=(U D 3)) rfl vo).drewN k) (fun j S x=>by omega)⟩)
 rw[u];rw[u]at b;generalize(s'.out.drop s.taken).length=no at*;have T:=(show w1.cell? (U D 3)=some (.slice none 0 0) from aC a 3 _ rfl)
 have M:=(show w1.frozen? (U D 3)=false from aJ a 3)
 go_wp2_with fail;go_ret2;have h:=b.o 0;rw[DN]at h;exact⟨rfl,_,h⟩
end Go.Proofs.YtbpahojchgpdnaaGreatDoor
namespace Go.dM
open Go Go.RowKit Go.Proofs.YtbpahojchgpdnaaGreatDoor
variable {D N0 base cap d e f g hz n off p t z:Nat} {B Bd out ys:aD} {w w':aH} {A:Array aK} {v vo:aK}
structure Same (B B':aD)(k:Nat):Prop extends qH B B' k where
 all:k+8*B'.length=8*B.length
def Same.drop (B:aD)(hz:z<=B.length):Same B (B.drop z) (8*z):=⟨⟨by omega,by simp;omega,fun i hi=>by rw[show 8*z/8+i=z+i by omega,kM]⟩,by simp;omega⟩
variable {B B':aD} {k:Nat}
def Nf (h:Same B B' k)(D:d9)(p:Nat):∀r j,jN D B (p+k) r j=(jN D B' p r j).sh k:=by
 have b:=h.all;intro r;induction r with
 |zero=>intro j;rfl
 |succ r ih=>
  intro j;by_cases a:p+j<8*B'.length
  ·rw[jN,jN,aA a,aA (by omega),h.key (by omega)];cases D.tab (bU B' p (j+1))with
   |some s=>simp only[R.sh];congr 1;omega
   |none=>exact ih (j+1)
  ·rw[jN,jN,aB a,aB (by omega)];rfl
def KR (h:Same B B' k)(D:d9)(p:Nat):lC D B (p+k)=(lC D B' p).sh k:=Nf h D p _ _
def Jo (h:Same B B' k)(q s:Nat)(row:aD):fO B (q+k) s row=(fO B' q s row).sh k:=by
 have j:=h.all;unfold fO;by_cases a:s<16
 ·rw[aA a,aA a];rfl
 ·rw[aB a,aB a];have one:∀(n x z:Nat),(if q+k+n<=8*B.length then R.ok (x,aG B (q+k) n+z) (q+k+n)else .miss)=(if q+n<=8*B'.length then R.ok (x,aG B' q n+z) (q+n)else .miss).sh k:=by
   intro n x z;by_cases i:q+n<=8*B'.length
   ·rw[aA i,aA (by omega),h.num i];simp only[R.sh];congr 1;omega
   ·rw[aB i,aB (by omega)];rfl
  by_cases b:s=16
  ·rw[aA b,aA b];exact one 2 _ _
  ·rw[aB b,aB b];by_cases c:s=17
   ·rw[aA c,aA c];exact one 3 _ _
   ·rw[aB c,aB c];exact one 7 _ _
def Lx (h:Same B B' k)(D:d9)(n:Nat):∀m p row,iC D B n m (p+k) row=(iC D B' n m p row).sh k:=by
 intro m;induction m with
 |zero=>intro p row;rfl
 |succ m ih=>
  intro p row;rw[iC,iC];by_cases a:n<=row.length
  ·rw[aA a,aA a];rfl
  ·rw[aB a,aB a,KR h D p];cases lC D B' p with
   |no e=>rfl
   |miss=>rfl
   |ok s q=>
    simp only[R.sh];by_cases b:s=16/\row.length=0
    ·rw[aA b,aA b]
    ·rw[aB b,aB b,Jo h q s row];cases fO B' q s row with
     |no e=>rfl
     |miss=>rfl
     |ok lt q'=>
      simp only[R.sh];by_cases c:n<row.length+lt.2
      ·rw[aA c,aA c]
      ·rw[aB c,aB c];exact ih q' _
def ZQ (h:Same B B' k)(p:Nat):bW B (p+k)=(bW B' p).sh k:=by
 have m:=h.all;unfold bW;by_cases i:p+14<=8*B'.length
 ·rw[aA i,aA (show p+k+14<=8*B.length by omega)];have j:aG B (p+k) 5=aG B' p 5:=h.num (by omega);have l:aG B (p+k+5) 5=aG B' (p+5) 5:=by rw[show p+k+5=p+5+k by omega];exact h.num (by omega)
  have e3:aG B (p+k+10) 4=aG B' (p+10) 4:=by rw[show p+k+10=p+10+k by omega];exact h.num (by omega)
  dsimp only;rw[j,l,e3];by_cases a:286<aG B' p 5+257\/30<aG B' (p+5) 5+1
  ·rw[aA a,aA a];rfl
  ·rw[aB a,aB a];by_cases c:p+14+3*(aG B' (p+10) 4+4)<=8*B'.length
   ·rw[aA c,aA (show p+k+14+3*(aG B' (p+10) 4+4)<=8*B.length by omega),show p+k+14=p+14+k by omega,h.firsts c];by_cases b:fF (bD B' (p+14) (aG B' (p+10) 4+4))=true
    ·rw[aA b,aA b,show p+14+k+3*(aG B' (p+10) 4+4)=p+14+3*(aG B' (p+10) 4+4)+k by omega];unfold NM;rw[Lx h];cases iC (aI (bD B' (p+14) (aG B' (p+10) 4+4))) B' (aG B' p 5+257+(aG B' (p+5) 5+1)) (aG B' p 5+257+(aG B' (p+5) 5+1)) (p+14+3*(aG B' (p+10) 4+4)) []with
     |no e=>rfl
     |miss=>rfl
     |ok row q=>
      simp only[R.sh];unfold pI;split<;>rfl
    ·rw[aB b,aB b];rfl
   ·rw[aB c,aB (by omega)];rfl
 ·rw[aB i,aB (by omega)];rfl
def YJ (h:Same B B' k)(q c:Nat):eF B (q+k) c=(eF B' q c).sh k:=by
 have l:=h.all;unfold eF;by_cases a:285<c
 ·rw[aA a,aA a];rfl
 ·rw[aB a,aB a];by_cases b:c=285
  ·rw[aA b,aA b];rfl
  ·rw[aB b,aB b];by_cases i:c<265
   ·rw[aA i,aA i];rfl
   ·rw[aB i,aB i];by_cases j:q+(c-261)/4<=8*B'.length
    ·rw[aA j,aA (by omega),h.num j];simp only[R.sh];congr 1;omega
    ·rw[aB j,aB (by omega)];rfl
def Nl (h:Same B B' k)(D:d9)(q:Nat):iQ D B (q+k)=(iQ D B' q).sh k:=by
 have i:=h.all;unfold iQ;rw[KR h D q];cases lC D B' q with
 |no e=>rfl
 |miss=>rfl
 |ok s q'=>
  simp only[R.sh];by_cases a:30<=s
  ·rw[aA a,aA a]
  ·rw[aB a,aB a];by_cases b:s<4
   ·rw[aA b,aA b]
   ·rw[aB b,aB b];by_cases c:q'+(s/2-1)<=8*B'.length
    ·rw[aA c,aA (by omega),h.num c];simp only;congr 1;omega
    ·rw[aB c,aB (by omega)]
def Ma (h:Same B B' k)(s:GS)(c q:Nat):gCopy B (s.sh k) c (q+k)=(gCopy B' s c q).sh k:=by
 unfold gCopy;rw[YJ h q c];cases eF B' q c with
 |no e=>rfl
 |miss=>rfl
 |ok n i=>
  simp only[R.sh];rw[show(s.sh k).ld=s.ld from rfl,Nl h (aI s.ld) i];cases iQ (aI s.ld) B' i with
  |no e=>rfl
  |miss=>rfl
  |ok a j=>
   simp only[R.sh];rw[show(s.sh k).out=s.out from rfl];by_cases b:s.out.length<a
   ·rw[aA b,aA b];rfl
   ·rw[aB b,aB b];exact DF s _ _
def Ra (h:Same B B' k)(s:GS):uF B (s.sh k)=(uF B' s).sh k:=by
 unfold uF;rw[show(s.sh k).ls=s.ls from rfl,show(s.sh k).p=s.p+k from rfl,KR h (aI s.ls) s.p];cases lC (aI s.ls) B' s.p with
 |no e=>rfl
 |miss=>rfl
 |ok c q=>
  simp only[R.sh];by_cases a:c<256
  ·rw[aA a,aA a];exact DF s _ _
  ·rw[aB a,aB a];by_cases b:c=256
   ·rw[aA b,aA b,I9 h.whole];rfl
   ·rw[aB b,aB b];exact Ma h s c q
def Jq (h:Same B B' k)(s:GS):nO B (s.sh k)=(nO B' s).sh k:=by
 have c:=h.all;unfold nO;rw[show(s.sh k).left=s.left from rfl,show(s.sh k).p=s.p+k from rfl];by_cases a:s.left=0
 ·rw[aA a,aA a,I9 h.whole];rfl
 ·rw[aB a,aB a];by_cases b:s.p+8<=8*B'.length
  ·rw[aA b,aA (by omega),h.num b,show s.p+k+8=s.p+8+k by omega];exact DF { s with left:=s.left-1 } _ _
  ·rw[aB b,aB (by omega)];rfl
def Ob (h:Same B B' k)(s:GS):kL B (s.sh k)=(kL B' s).sh k:=by
 have r:=h.all;have o:=h.whole;unfold kL;rw[show(s.sh k).p=s.p+k from rfl,show(s.sh k).out=s.out from rfl];by_cases i:s.p+3<=8*B'.length
 ·rw[aA i,aA (show s.p+k+3<=8*B.length by omega)];have j:aG B (s.p+k+1) 2=aG B' (s.p+1) 2:=by rw[show s.p+k+1=s.p+1+k by omega];exact h.num (by omega)
  have l:bK B (s.p+k)=bK B' s.p:=h.bit (by omega);rw[j,l];by_cases c:aG B' (s.p+1) 2=0
  ·rw[aA c,aA c,show(s.p+k+3+7)/8*8=(s.p+3+7)/8*8+k by omega];by_cases b:(s.p+3+7)/8*8+32<=8*B'.length
   ·rw[aA b,aA (show(s.p+3+7)/8*8+k+32<=8*B.length by omega),show(s.p+3+7)/8*8+k+16=(s.p+3+7)/8*8+16+k by omega,h.num (by omega),h.num (by omega)];by_cases a:aG B' ((s.p+3+7)/8*8+16) 16=65535-aG B' ((s.p+3+7)/8*8) 16
    ·rw[aA a,aA a,show(s.p+3+7)/8*8+k+32=(s.p+3+7)/8*8+32+k by omega];rfl
    ·rw[aB a,aB a];rfl
   ·rw[aB b,aB (by omega)];rfl
  ·rw[aB c,aB c];by_cases b:aG B' (s.p+1) 2=1
   ·rw[aA b,aA b,show s.p+k+3=s.p+3+k by omega];rfl
   ·rw[aB b,aB b];by_cases a:aG B' (s.p+1) 2=2
    ·rw[aA a,aA a,show s.p+k+3=s.p+3+k by omega,ZQ h (s.p+3)];cases bW B' (s.p+3)with
     |no e=>rfl
     |miss=>rfl
     |ok m q=>rfl
    ·rw[aB a,aB a];rfl
 ·rw[aB i,aB (by omega)];rfl
def zT (h:Same B B' k)(s:GS):bM B (s.sh k)=(bM B' s).sh k:=by
 unfold bM;rw[show(s.sh k).place=s.place from rfl];by_cases a:s.place=1
 ·rw[aA a,aA a];exact Jq h s
 ·rw[aB a,aB a];by_cases b:s.place=2
  ·rw[aA b,aA b];exact Ra h s
  ·rw[aB b,aB b];exact Ob h s
def QH (D:d9)(B:aD)(p:Nat):∀r j e,jN D B p r j= .no e->5<=e:=by
 intro r;induction r with
 |zero=>intro j e h;injection h with h;omega
 |succ r ih=>
  intro j e h;rw[jN]at h;split at h
  ·split at h
   ·simp at h
   ·exact ih _ _ h
  ·simp at h
def oU {D:d9}(h:lC D B p= .no e):5<=e:=QH D B p _ _ e h
def J3 {q s:Nat}{row:aD}(h:fO B q s row= .no e):5<=e:=by
 unfold fO at h;split at h
 ·simp at h
 ·split at h
  ·split at h<;>simp at h
  ·split at h
   ·split at h<;>simp at h
   ·split at h<;>simp at h
def G8 (D:d9)(B:aD)(n:Nat):∀m p row e,iC D B n m p row= .no e->5<=e:=by
 intro m;induction m with
 |zero=>intro p row e h;simp[iC]at h
 |succ m ih=>
  intro p row e h;rw[iC]at h;split at h
  ·simp at h
  ·split at h
   ·rename_i b a;injection h with h;have:=oU a;omega
   ·simp at h
   ·split at h
    ·injection h with h;omega
    ·split at h
     ·rename_i b a;injection h with h;have:=J3 a;omega
     ·simp at h
     ·split at h
      ·injection h with h;omega
      ·exact ih _ _ _ h
def zL (h:bW B p= .no e):5<=e:=by
 unfold bW at h;split at h
 ·dsimp only at h;split at h
  ·injection h with h;omega
  ·split at h
   ·split at h
    ·split at h
     ·unfold pI at h;split at h
      ·simp at h
      ·injection h with h;omega
     ·rename_i b a;injection h with h;have:=G8 _ _ _ _ _ _ _ a;omega
     ·simp at h
    ·injection h with h;omega
   ·simp at h
 ·simp at h
def F7 {q c:Nat}(h:eF B q c= .no e):5<=e:=by
 unfold eF at h;split at h
 ·injection h with h;omega
 ·split at h
  ·simp at h
  ·split at h
   ·simp at h
   ·split at h<;>simp at h
def SG {D:d9}{q:Nat}(h:iQ D B q= .no e):5<=e:=by
 unfold iQ at h;split at h
 ·rename_i b a;injection h with h;have:=oU a;omega
 ·simp at h
 ·split at h
  ·injection h with h;omega
  ·split at h
   ·simp at h
   ·split at h<;>simp at h
def Y9 {s:GS}{xs:aD}(h:mM s xs p= .no e out):5<=e:=by
 unfold mM at h;split at h
 ·simp at h
 ·injection h with h;omega
def Hr {s:GS}(h:bM B s= .no e out):5<=e:=by
 unfold bM at h;split at h
 ·unfold nO at h;split at h
  ·simp at h
  ·split at h
   ·exact Y9 h
   ·simp at h
 ·split at h
  ·unfold uF at h;split at h
   ·rename_i b a;injection h with h;have:=oU a;omega
   ·simp at h
   ·split at h
    ·exact Y9 h
    ·split at h
     ·simp at h
     ·unfold gCopy at h;split at h
      ·rename_i b a;injection h with h;have:=F7 a;omega
      ·simp at h
      ·split at h
       ·rename_i b a;injection h with h;have:=SG a;omega
       ·simp at h
       ·split at h
        ·injection h with h;omega
        ·exact Y9 h
  ·unfold kL at h;split at h
   ·split at h
    ·split at h
     ·split at h
      ·simp at h
      ·injection h with h;omega
     ·simp at h
    ·split at h
     ·simp at h
     ·split at h
      ·split at h
       ·simp at h
       ·rename_i b a;injection h with h;have:=zL a;omega
       ·simp at h
      ·injection h with h;omega
   ·simp at h
def Yr (h:Same B B' k){s:GS}{q:Nat}(c:eZ B' n s e out q):eZ B n (s.sh k) e out (if e=0 then q+k else 0):=by
 induction c with
 |done s a=>exact .done (s.sh k) a
 |no s e out a hs=>
  have b:e≠0:=by have:=Hr hs;omega
  rw[aB b];exact .no (s.sh k) e out a (by rw[zT h,hs];rfl)
 |miss s a hs=>exact .miss (s.sh k) a (by rw[zT h,hs];rfl)
 |go n s i e out q a hs hk ih=>exact .go n (s.sh k) (i.sh k) e out _ a (by rw[zT h,hs];rfl) ih
end Go.dM
namespace Go.Proofs.YtbpahojchgpdnaaGreatDoor
open Go.RowKit Go.dM Go.Maps Go.Proofs.Tryz
variable {D N0 base cap d e f g hz n off p t z:Nat} {B Bd out ys:aD} {w w':aH} {A:Array aK} {v vo:aK}
def Sc {s:GS}(hp:s.p<=8*B.length):(∃n s',rF B n s s')\/∃n e out q,eZ B n s e out q/\e≠3:=by
 obtain⟨n,e,out,q,a⟩:=O9 B (xS B s+1) s hp (by omega);rcases ao7 a with⟨m,s',h,_⟩|h|⟨s',x,h⟩
 ·exact .inl ⟨m,s',h⟩
 ·exact .inr ⟨n,e,out,q,a,h⟩
 ·have:=Hr h;omega
def rZ (d f N0 g off cap z:Nat)(Bd:aD)(s:GS)(v:aK)(hz:Nat)(e:Nat)(vo:aK)(ys:aD)(w':aH):Prop:=
 (∃n out q1,e≠3/\eZ Bd n s e out q1/\ys=out.drop s.taken/\∃q',bN w' f (.slice (bE g off Bd.length) Bd.length cap) q' z/\(e=0->q'=q1/\q1<=8*Bd.length)/\∃A,w'.heap[d]? =some (.cells A 128 (0,0)))\/
 (e=3/\∃n s' s2 v',rF Bd n s s'/\KC s' s2/\ys=s'.out.drop s.taken/\dJ w' d f N0 g off cap z Bd { s2 with taken:=s2.out.length } v'/\(∀k,v'.ownBlock=some k->v.ownBlock=some k\/hz<=k)/\Apart vo v')
def rZ.feed {s:GS}(h:rZ d f N0 g off cap z Bd s v hz e vo ys w'):∃q',bN w' f (.slice (bE g off Bd.length) Bd.length cap) q' z:=by
 rcases h with⟨_,_,_,_,_,_,q',h,_⟩|⟨_,_,_,a,_,_,_,_,h,_⟩
 ·exact⟨q',h⟩
 ·exact⟨_,h.place.2.2.1⟩
def rZ.other {s:GS}{X:Nat}(h:rZ d f N0 g off cap z Bd s v hz e vo ys w)(hs:Step (·=X) w w')(b:w.heap[X]? =some (.cells A t (0,0)))(l:t≠128)(m:t≠91)(N:t≠5)(P:t≠125)(H:g≠X)(G:4<=X):rZ d f N0 g off cap z Bd s v hz e vo ys w':=by
 rcases h with⟨n,out,L,c,J,K,q',i,I,o,a⟩|⟨c,n,s',M,Q,q,r,u,y,C,F⟩
 ·refine .inl ⟨n,out,L,c,J,K,q',hs.at_ i (fun x=> ?_),I,o,hs.at_ a (fun x=>by
   rw[x,b]at a;simp only[fH,uK]at a;exact l a.2.1)⟩
  rw[x]at i;have j:=b.symm.trans i;simp only[fH,uK]at j;exact m j.2.1
 ·exact .inr ⟨c,n,s',M,Q,q,r,u,y.other hs b l m N P H G,C,F⟩
def rZ.bytes {s:GS}(h:rZ d f N0 g off cap z Bd s v hz e vo ys w)(o:iR s.out)(i:s.place=3->s.p%8=0)(l:s.out.length<=s.most):iR ys/\ys.length<=s.most:=by
 have key:∀{n e:Nat} {out:aD} {q:Nat},eZ Bd n s e out q->iR (out.drop s.taken)/\(out.drop s.taken).length<=s.most:=fun a=>by
  have b:=(a.bytes o i).1;have c:=a.most l;exact⟨fun y r=>b y (IC r),by rw[dX];omega⟩
 rcases h with⟨n,out,C,j,a,rfl,_⟩|⟨j,n,s',F,G,b,c,rfl,u,x⟩
 ·exact key a
 ·obtain⟨m,a⟩:=b.run;exact key a
def aA9 (D d f N0 g off cap z:Nat)(parts:aK)(nm:bY)(B:aD)(s:GS)(v:aK)(w:aH)(C:gQ w D f d parts (.slice none 0 0) nm)(a:tK d f v D)(o:4<=D)(u:D<N0)(b:g≠D)(x:dJ w d f N0 g off cap z B s v):Calls prog 50 #[E D] w fun r w'=>∃(e:Nat) (vo:aK) (ys:aD),r= .returned (.tuple #[.bool (e==0),V e])/\gQ w' D f d parts vo nm/\Taken w' w.heap.size vo ys/\Step (fun k=>k=D\/k=d\/k=f\/v.ownBlock=some k) w w'/\rZ d f N0 g off cap z B s v w.heap.size e vo ys w':=by
 rcases Sc x.bits with⟨n,s',c⟩|⟨n,e,out,q,F,H⟩
 ·apply(Ww D d f N0 g off cap z n parts nm B s s' v w C a o b x c).mono;rintro r w' ⟨rfl,vo,j,l,m⟩;obtain⟨I,J,k1,k2,i,y,G⟩:=l.ex;exact⟨3,vo,_,rfl,j,m,i, .inr ⟨rfl,n,s',I,J,c,k1,rfl,k2,y,G⟩⟩
 ·apply(VG D d f N0 g off cap z n e parts nm B s out q v w C a u b x F).mono;rintro r w' ⟨rfl,vo,j,l,m⟩;obtain⟨st,q',k1,k2,i,y,G⟩:=l.ex;exact⟨e,vo,_,rfl,j,m,y, .inl ⟨n,out,q,H,F,rfl,q',i.feed,k2,_,i.dec.blk⟩⟩
def at7 (Z D d f b a:Nat)(parts:aK)(nm:bY)(w:aH)(S:Nat->Prop)(K:Nat->aK->aD->aH->Prop)(F:Ms w Z D b a)(C:¬S Z)(y:D≠Z)(hs:a<4294967296)(M:∀e vo ys w1 w2 A,w1.heap[Z]? =some (.cells A 132 (0,0))->Step (·=Z) w1 w2->K e vo ys w1->K e vo ys w2)(L:Calls prog 50 #[E D] w fun r w'=>∃(e:Nat) (vo:aK) (ys:aD),r= .returned (.tuple #[.bool (e==0),V (e:Nat)])/\gQ w' D f d parts vo nm/\Taken w' w.heap.size vo ys/\Step S w w'/\iR ys/\ys.length<=1048576/\K e vo ys w'):Calls prog 77 #[E Z] w fun r w'=>∃(e:Nat) (vo:aK) (ys:aD),r= .returned (.tuple #[.bool (e==0),V (e:Nat)])/\gQ w' D f d parts vo nm/\Taken w' w.heap.size vo ys/\Step (fun k=>S k\/k=Z) w w'/\Ms w' Z D b (dZ a ys)/\K e vo ys w':=by
 have X:w.cell? (U Z 0)=some (E D):=aC F 0 _ rfl;have N:=aO F;go_enter func77,ntmps77;go_wp2_with fail;apply L.mono;rintro r w1 ⟨e,vo,ys,rfl,q,j,s,G,Q,hk⟩;have c:Ms w1 Z D b a:=s.at_ F C;have R:w1.cell? (U Z 0)=some (E D):=aC c 0 _ rfl;have a2:w1.cell? (U Z 2)=some (.int .u32 (a:Nat)):=aC c 2 _ rfl;have T:w1.frozen? (U Z 2)=false:=aJ c 2;obtain⟨W,Y,H⟩:=j.slice;have I:w1.cell? (U D 3)=some vo:=aC q 3 _ rfl;have m:=hide (N7 a vo ys w1.drew hs (j.step ((aU (fun _=>False) w1).drew) (fun _ _ x=>x)).ad1 G (by omega));have P:=vB a hs ys;have l:=hide (show∀k,∃(u:Nat) (vo':aK) (ys':aD),(.returned (.tuple #[.bool (e==0),V (e:Nat)]):Ending)= .returned (.tuple #[.bool (u==0),V u])/\gQ ((w1.setCell (U Z 2) (.int .u32 (dZ a ys:Nat))).drewN k) D f d parts vo' nm/\Taken ((w1.setCell (U Z 2) (.int .u32 (dZ a ys:Nat))).drewN k) w.heap.size vo' ys'/\Step (fun k=>S k\/k=Z) w ((w1.setCell (U Z 2) (.int .u32 (dZ a ys:Nat))).drewN k)/\Ms ((w1.setCell (U Z 2) (.int .u32 (dZ a ys:Nat))).drewN k) Z D b (dZ a ys')/\K u vo' ys' ((w1.setCell (U Z 2) (.int .u32 (dZ a ys:Nat))).drewN k) from fun k=>by
  have i:Step (·=Z) w1 ((w1.setCell (U Z 2) (.int .u32 (dZ a ys:Nat))).drewN k):=((aU (·=Z) w1).setCell (p:=(U Z 2)) rfl _).drewN k;refine⟨e,vo,ys,rfl,i.at_ q y,fJ j i (fun k hk x=>kR j c (by decide) (by rw[hk,x])),(s.mono (fun k x=> .inl x)).trans (i.mono (fun k x=> .inr x)),?_,M e vo ys w1 _ _ c i hk⟩;have J:=aV c 2 (.int .u32 (dZ a ys:Nat));simpa[World.drewN]using J)
 rw[H]at I m;generalize ys.length=no at*;go_wp2_with fail
 go_region_with
  (first|(go_at_call 92;apply m.o.mono;rintro e w8 ⟨rfl,rfl⟩))
 all_goals
  go_wp2_with fail;go_ret2;exact l.o 1
def ay2 (Z D d f fl left head check size:Nat)(C:aK)(parts:aK)(nm:bY)(w:aH)(S:Nat->Prop)(K:Nat->aK->aD->aH->Prop)(H:rP w Z D fl left head C check size)(G:¬S Z)(j:D≠Z)(hs:check<4294967296)(ab:size<=1048576)(X:∀e vo ys w1 w2 A,w1.heap[Z]? =some (.cells A 137 (0,0))->Step (·=Z) w1 w2->K e vo ys w1->K e vo ys w2)(W:Calls prog 50 #[E D] w fun r w'=>∃(e:Nat) (vo:aK) (ys:aD),r= .returned (.tuple #[.bool (e==0),V (e:Nat)])/\gQ w' D f d parts vo nm/\Taken w' w.heap.size vo ys/\Step S w w'/\iR ys/\ys.length<=1048576/\K e vo ys w'):Calls prog 87 #[E Z] w fun r w'=>∃(e:Nat) (vo:aK) (ys:aD),r= .returned (.tuple #[.bool (e==0),V (e:Nat)])/\gQ w' D f d parts vo nm/\Taken w' w.heap.size vo ys/\Step (fun k=>S k\/k=Z) w w'/\rP w' Z D fl left head C (aL check ys) (size+ys.length)/\K e vo ys w':=by
 have c0:w.cell? (U Z 0)=some (E D):=aC H 0 _ rfl;have Y:=aO H;have HB:=hide W;have J:=hide X;go_enter func87,ntmps87;go_wp2_with fail;apply HB.o.mono;rintro r w1 ⟨e,vo,ys,rfl,i,b,l,y,I,hk⟩;have a:rP w1 Z D fl left head C check size:=l.at_ H G;have a0:w1.cell? (U Z 0)=some (E D):=aC a 0 _ rfl;have a2:w1.cell? (U Z 5)=some (.int .u32 (check:Nat)):=aC a 5 _ rfl;have af:w1.frozen? (U Z 5)=false:=aJ a 5;have a6:w1.cell? (U Z 6)=some (.int .u32 (size:Nat)):=aC a 6 _ rfl;have P:w1.frozen? (U Z 6)=false:=aJ a 6;obtain⟨ao,co,m⟩:=b.slice;have N:w1.cell? (U D 3)=some vo:=aC i 3 _ rfl;have s:=hide (tC check vo ys w1.drew hs (b.step ((aU (fun _=>False) w1).drew) (fun _ _ x=>x)).ad1 y (by omega));have aa:=iW check ys;obtain⟨no,u⟩:=aP ys.length;have q:=hide (show∀k,∃(F:Nat) (vo':aK) (ys':aD),(.returned (.tuple #[.bool (e==0),V (e:Nat)]):Ending)= .returned (.tuple #[.bool (F==0),V F])/\gQ (((w1.setCell (U Z 5) (.int .u32 (aL check ys:Nat))).setCell (U Z 6) (.int .u32 ((size:Int)+(no:Nat)))).drewN k) D f d parts vo' nm/\Taken (((w1.setCell (U Z 5) (.int .u32 (aL check ys:Nat))).setCell (U Z 6) (.int .u32 ((size:Int)+(no:Nat)))).drewN k) w.heap.size vo' ys'/\Step (fun k=>S k\/k=Z) w (((w1.setCell (U Z 5) (.int .u32 (aL check ys:Nat))).setCell (U Z 6) (.int .u32 ((size:Int)+(no:Nat)))).drewN k)/\rP (((w1.setCell (U Z 5) (.int .u32 (aL check ys:Nat))).setCell (U Z 6) (.int .u32 ((size:Int)+(no:Nat)))).drewN k) Z D fl left head C (aL check ys') (size+ys'.length)/\K F vo' ys' (((w1.setCell (U Z 5) (.int .u32 (aL check ys:Nat))).setCell (U Z 6) (.int .u32 ((size:Int)+(no:Nat)))).drewN k) from fun k=>by
  have c:Step (·=Z) w1 (((w1.setCell (U Z 5) (.int .u32 (aL check ys:Nat))).setCell (U Z 6) (.int .u32 ((size:Int)+(no:Nat)))).drewN k):=(((aU (·=Z) w1).setCell (p:=(U Z 5)) rfl _).setCell (p:=(U Z 6)) rfl _).drewN k;refine⟨e,vo,ys,rfl,c.at_ i j,fJ b c (fun k hk x=>kR b a (by decide) (by rw[hk,x])),(l.mono (fun k x=> .inl x)).trans (c.mono (fun k x=> .inr x)),?_,J.o e vo ys w1 _ _ a c hk⟩;have R:=aV a 5 (.int .u32 (aL check ys:Nat));have T:=aV R 6 (.int .u32 ((size:Int)+(no:Nat)));have Q:((size+ys.length:Nat):Int)=(size:Int)+(no:Nat):=by omega
  unfold rP;rw[Q];simpa[World.drewN]using T)
 rw[<-u]at m I;have n1:¬D=Z:=j;have n2:¬Z=D:=fun x=>j x.symm;have L:=aO a;have M:IntKind.u32.wrap ((size:Int)+(no:Int))=(size:Int)+(no:Int):=by rw[IntKind.wrap_u32];omega
 rw[m]at N s;clear u a l b i HB J m hk y;go_wp2_with fail
 go_region_with
  (first|(go_at_call 94;apply s.o.mono;rintro e w8 ⟨rfl,rfl⟩))
 all_goals
  go_wp2_with fail;go_region;go_wp2_with fail;go_ret2;exact q.o 2
end Go.Proofs.YtbpahojchgpdnaaGreatDoor
