/- Proved here: the reference's answer, of any kind, by what is said of all bytes. -/
import Derived.Test.YtbpahojchgpdnaaGreatDoorReadE
import Derived.Test.YtbpahojchgpdnaaGreatDoorLawW
import Derived.Deep.DeepCutAuto
import Derived.Deep.RegionWith
import Derived.Test.YtbpahojchgpdnaaGreatDoorSortB
set_option maxRecDepth 20000
set_option maxHeartbeats 4000000
namespace Go.Proofs.YtbpahojchgpdnaaGreatDoor
open Go.RowKit Go.Bel
theorem ref_all (k : Nat) (s : ByteArray) (most : Int) (e : Nat) (out : List Nat) (used : Nat) (nm : List Nat) (hk : k ≤ 2) (hb : s.size ≤ 140737488351232) (h : rAll k (bytesOf s) (asked most) e out used nm) (w : World) :
  Calls Tryz.prog 67 #[.int .i64 (k : Nat), .string s, .int .i64 most] w
   fun r w' => ∃ v', r = .returned (.agg #[.int .i64 (e : Nat), v', .int .i64 (used : Nat), .string (baOf nm)]) ∧ w'.ownsRow w.heap.size 5 1 v' out.length (u8s out) ∧ Step (fun _ => False) w w' := by
 have hc : k = 0 ∨ k = 1 ∨ k = 2 := by omega
 unfold rAll at h
 rcases hc with rfl | rfl | rfl
 ·unfold rRest at h
  rw [if_pos (show (rq0 0 (asked most)).i = bi 0 from rfl)] at h
  obtain ⟨n, e1, o1, q1, hr, h⟩ := h
  have hr : GRun (bytesOf s) n (gInit (asked most)) e1 o1 q1 := hr
  by_cases he : e1 = 0
  ·subst he
   rw [if_pos rfl] at h
   obtain ⟨rfl, rfl, hu, rfl⟩ := h
   have hg : usedG 0 0 q1 = used := by unfold usedG; rw [if_pos rfl]; omega
   have := unpackX n 0 most s out q1 w toldX_any hb hr
   rw [hg] at this
   exact this
  ·rw [if_neg he] at h
   obtain ⟨rfl, rfl, rfl, rfl⟩ := h
   have hg : usedG 0 e q1 = 0 := by unfold usedG; rw [if_neg he]
   have := unpackX n e most s out q1 w toldX_any hb hr
   rw [hg] at this
   exact this
 ·unfold rRest at h
  rw [if_neg (show ¬ (rq0 1 (asked most)).i = bi 1 from (by decide : ¬ (0 : Nat) = bi 1)), if_neg (by omega), if_pos rfl] at h
  obtain ⟨⟨_, h⟩, rfl⟩ := h
  exact unpackX1 e most s out used w toldX_any hb h (zAll_used h).1
 ·rw [rest_0 rfl] at h
  exact unpackX2 e most s out used nm w toldX_any hb h.2 (gzAll_used h.2).1
theorem rAll_len {k most : Nat} {B : List Nat} {e : Nat} {out : List Nat} {used : Nat} {nm : List Nat} (hk : k ≤ 2) (h : rAll k B most e out used nm) : out.length ≤ most := by
 have hc : k = 0 ∨ k = 1 ∨ k = 2 := by omega
 unfold rAll at h
 rcases hc with rfl | rfl | rfl
 ·unfold rRest at h
  rw [if_pos (show (rq0 0 most).i = bi 0 from rfl)] at h
  obtain ⟨n, e1, o1, q1, hr, h⟩ := h
  have hr : GRun B n (gInit most) e1 o1 q1 := hr
  have hl := hr.most (by simp [gInit])
  by_cases he : e1 = 0
  ·rw [if_pos he] at h
   rw [h.2.1]; exact hl
  ·rw [if_neg he] at h
   rw [h.2.1]; exact hl
 ·unfold rRest at h
  rw [if_neg (show ¬ (rq0 1 most).i = bi 1 from (by decide : ¬ (0 : Nat) = bi 1)), if_neg (by omega), if_pos rfl] at h
  exact zAll_len h.1.2
 ·rw [rest_0 rfl] at h
  exact (gzAll_used h.2).2.2
theorem rAll_ex {k : Nat} (hk : k ≤ 2) (B : List Nat) (most : Nat) : ∃ e out used nm, rAll k B most e out used nm := by
 have hc : k = 0 ∨ k = 1 ∨ k = 2 := by omega
 rcases hc with rfl | rfl | rfl
 ·obtain ⟨n, e, out, q, hr⟩ := gRun_ex B (gLeft B (gAt most 0) + 1) (gAt most 0) (by simp [gAt]) (by omega)
  have h8 := (gAt_run hr).2.1
  simp only [rAll_0]
  by_cases he : e = 0
  ·exact ⟨0, out, q / 8, [], n, e, out, q, hr, by rw [if_pos he]; exact ⟨rfl, rfl, by omega, rfl⟩⟩
  ·exact ⟨e, out, 0, [], n, e, out, q, hr, by rw [if_neg he]; exact ⟨rfl, rfl, rfl, rfl⟩⟩
 ·obtain ⟨e, out, used, h⟩ := zAll_ex B most
  exact ⟨e, out, used, [], by rw [rAll_1]; exact ⟨⟨rfl, h⟩, rfl⟩⟩
 ·obtain ⟨e, out, used, nm, h⟩ := gzAll_ex B most
  exact ⟨e, out, used, nm, by rw [rAll_2]; exact ⟨rfl, h⟩⟩
theorem unpack_all (k g cap : Nat) (most : Int) (B : List Nat) (w : World) (hk : k ≤ 2) (hS : Go.Bel.Src w g 0 B) (hg : g < w.heap.size) (hO : OrderAt w) (h4 : 4 ≤ w.heap.size) (hB : AllB B) (hL : B.length ≤ 8388608) {e : Nat} {out : List Nat} {used : Nat} {nm : List Nat} (h : rAll k B (asked most) e out used nm) :
  Calls Tryz.prog 25 #[.int .i64 (k : Nat), .slice (some ⟨g, 0, none⟩) B.length cap, .int .i64 most] w fun r w' => ∃ v', r = .returned (.agg #[.int .i64 (e : Nat), v', .int .i64 (used : Nat), .string (baOf nm)]) ∧ w'.ownsRow w.heap.size 5 1 v' out.length (u8s out) ∧ Step (fun _ => False) w w' := by
 have hc := unpackR k g 0 cap most B w hk hS hg hO h4 hB hL
 rw [fedA_at (by omega)] at hc
 refine hc.mono ?_
 rintro r w' ⟨e', out', used', nm', v', rfl, h', h2, h3⟩
 obtain ⟨rfl, rfl, rfl, rfl⟩ := rAll_one hk B (asked most) _ _ _ _ _ _ _ _ h h'
 exact ⟨v', rfl, h2, h3⟩
theorem agrees_k (k : Nat) (b : ByteArray) (most : Int) (hk : k ≤ 2) (hb : b.size ≤ 1048576) : Agrees (k : Nat) b most := by
 obtain ⟨e, out, used, nm, h⟩ := rAll_ex hk (bytesOf b) (asked most)
 refine ⟨e, used, out, baOf nm, Nat.le_trans (rAll_len hk h) (asked_le most), fun g cap w hS hg hO h4 => ?_, fun w => ref_all k b most e out used nm hk (by omega) h w⟩
 rw [← bytesOf_length b]
 exact unpack_all k g cap most (bytesOf b) w hk hS hg hO h4 (fun y hy => bytesOf_lt b y hy) (by rw [bytesOf_length]; omega) h
theorem agrees_all (wrap : Int) (b : ByteArray) (most : Int) (hb : b.size ≤ 1048576) : Agrees wrap b most := by
 by_cases h : 0 ≤ wrap ∧ wrap ≤ 2
 ·obtain ⟨k, rfl⟩ : ∃ k : Nat, wrap = (k : Int) := ⟨wrap.toNat, by omega⟩
  exact agrees_k k b most (by omega) hb
 ·exact agrees_no wrap b most (by omega) (by omega) (by omega)
end Go.Proofs.YtbpahojchgpdnaaGreatDoor
namespace Go.Proofs.YtbpahojchgpdnaaGreatDoor
open Go.RowKit Go.Bel
structure Pl where
 pb : Nat
 Rb : Nat
 k : Nat
 most : Int
 sx : ByteArray
 tx : Nat
 B : List Nat
 pre : List Nat
 e : Nat
 used : Nat
 nm : List Nat
 Own : Nat → Prop
def Pl.cells (p : Pl) : Array Value := #[.pointer (some ⟨p.Rb, 0, none⟩), .int .i64 (p.k : Nat), .int .i64 p.most, .string p.sx, .int .i64 (p.tx : Nat)]
def plPtr (p : Pl) : Value := .pointer (some ⟨p.pb, 0, none⟩)
def Pl.ok (p : Pl) : Prop := bytesOf p.sx = p.B ∧ p.tx = p.pre.length
def AnyOwn (pls : List Pl) (b : Nat) : Prop := ∃ p ∈ pls, p.Own b
def PlOff (p q : Pl) : Prop := p.pb ≠ q.pb ∧ ∀ b, p.Own b → ¬ q.Own b
structure LS (n0 : Nat) (F : Nat → Prop) (w : World) (wb : Nat) (ps v : Value) (hs : List Hd) (pls : List Pl) : Prop where
 k : KAt w 4 wb ps v hs F
 sepF : ∀ b, F b → ¬ AnyOwn pls b
 row : w.ownsRow 4 85 1 ps pls.length (pls.map plPtr)
 blk : ∀ p ∈ pls, w.heap[p.pb]? = some (.cells p.cells 87 (0, 0))
 rd : ∀ p ∈ pls, p.k ≤ 2 ∧ Rd p.k (asked p.most) w p.Rb p.B p.pre p.e p.used p.nm p.Own
 few : pls.length ≤ 4
 apart : pls.Pairwise PlOff
 sep : ∀ b, AnyOwn pls b → wb < b ∧ v.ownBlock ≠ some b ∧ ps.ownBlock ≠ some b ∧ ∀ p ∈ pls, p.pb ≠ b
 order : OrderAt w
 w4 : 4 ≤ wb
 low : n0 ≤ wb ∧ (∀ b, v.ownBlock = some b → n0 ≤ b) ∧ (∀ b, ps.ownBlock = some b → n0 ≤ b) ∧ ∀ p ∈ pls, wb < p.pb
variable {n0 : Nat} {F : Nat → Prop} {w w' : World} {wb : Nat} {ps v : Value} {hs : List Hd} {pls : List Pl}
theorem LS.lt (h : LS n0 F w wb ps v hs pls) {b : Nat} (hb : AnyOwn pls b) : 4 ≤ b ∧ b < w.heap.size := by
 obtain ⟨p, hp, hb⟩ := hb
 exact (h.rd p hp).2.lt hb
theorem LS.wlt (h : LS n0 F w wb ps v hs pls) : wb < w.heap.size := lt_of_block h.k.blk
theorem LS.w0 (h : LS n0 F w wb ps v hs pls) : 4 ≤ w.heap.size := by have := h.wlt; have := h.w4; omega
theorem LS.ltF (h : LS n0 F w wb ps v hs pls) : LS n0 (fun b => F b ∧ b < w.heap.size) w wb ps v hs pls := ⟨h.k.ltF, fun b x => h.sepF b x.1, h.row, h.blk, h.rd, h.few, h.apart, h.sep, h.order, h.w4, h.low⟩
theorem LS.step0 (h : LS n0 F w wb ps v hs pls) (st : Step (fun _ => False) w w') : LS n0 F w' wb ps v hs pls :=
 ⟨h.k.step0 st, h.sepF, own_step h.row st (fun _ _ x => x), fun p hp => st.at_ (h.blk p hp) (fun x => x), fun p hp => ⟨(h.rd p hp).1, (h.rd p hp).2.frame st (fun _ x => x.elim)⟩, h.few, h.apart, h.sep, h.order.step st (fun _ _ x => x), h.w4, h.low⟩
theorem LS.kept (h : LS n0 F w wb ps v hs pls) {v' vb : Value} {hs' : List Hd} {F' : Nat → Prop} {S : Nat → Prop} (K : KAt w' 4 wb ps v' hs' F') (hF : ∀ b, F' b → ¬ AnyOwn pls b) (hv : ∀ b, v'.ownBlock = some b → v.ownBlock = some b ∨ w.heap.size ≤ b) (st : Step S w w') (hS : ∀ j, S j → j = wb ∨ v.ownBlock = some j ∨ vb.ownBlock = some j) (hvb : ∀ b, vb.ownBlock = some b → ¬ AnyOwn pls b ∧ 4 ≤ b ∧ n0 ≤ b) (hvr : ∀ b, vb.ownBlock = some b → b < w.heap.size → ∃ A, w.heap[b]? = some (.cells A 5 (0, 0))) : LS n0 F' w' wb ps v' hs' pls := by
 have hvk : ∀ b, v.ownBlock = some b → ∃ A, w.heap[b]? = some (.cells A 89 (0, 0)) := fun b hb => own_row h.k.own hb
 have hpk : ∀ b, ps.ownBlock = some b → ∃ A, w.heap[b]? = some (.cells A 85 (0, 0)) := fun b hb => own_row h.row hb
 have key : ∀ (b t : Nat) (A : Array Value), w.heap[b]? = some (.cells A t (0, 0)) → t ≠ 70 → t ≠ 89 → t ≠ 5 → ¬ S b := fun b t A hb t1 t2 t3 x => by
  have one : ∀ (A' : Array Value) (t' : Nat), w.heap[b]? = some (.cells A' t' (0, 0)) → t = t' := fun A' t' h' => by
   rw [hb] at h'
   simp only [Option.some.injEq, Obj.cells.injEq] at h'
   exact h'.2.1
  rcases hS b x with y | y | y
  ·exact t1 (one _ _ (by rw [y]; exact h.k.blk))
  ·obtain ⟨A', hA⟩ := hvk b y
   exact t2 (one _ _ hA)
  ·obtain ⟨A', hA⟩ := hvr b y (lt_of_block hb)
   exact t3 (one _ _ hA)
 have hz := st.size
 have hwl := h.wlt
 have hor : ∀ j, S j → 4 ≤ j := fun j x => by
  rcases hS j x with y | y | y
  ·rw [y]; exact h.w4
  ·exact (h.k.own.lt j y).1
  ·exact (hvb j y).2.1
 refine ⟨K, hF, own_step h.row st (fun b hb => ?_), fun p hp => st.at_ (h.blk p hp) (key _ _ _ (h.blk p hp) (by decide) (by decide) (by decide)), fun p hp => ⟨(h.rd p hp).1, (h.rd p hp).2.frame st (fun j hj hl => ?_)⟩, h.few, h.apart, fun b hb => ?_, h.order.step st (fun j hj x => by have := hor j x; omega), h.w4, h.low.1, fun b hb => ?_, h.low.2.2⟩
 ·obtain ⟨A, hA⟩ := hpk b hb
  exact key _ _ _ hA (by decide) (by decide) (by decide)
 ·have hno : ¬ p.Own j := fun x => by
   have h1 := h.sep j ⟨p, hp, x⟩
   rcases hS j hj with y | y | y
   ·omega
   ·exact h1.2.1 y
   ·exact (hvb j y).1 ⟨p, hp, x⟩
  refine ⟨hor j hj, hno, ?_⟩
  rcases hS j hj with y | y | y
  ·rw [y]; exact ⟨_, _, h.k.blk, by decide⟩
  ·obtain ⟨A, hA⟩ := hvk j y
   exact ⟨_, _, hA, by decide⟩
  ·obtain ⟨A, hA⟩ := hvr j y hl
   exact ⟨_, _, hA, by decide⟩
 ·obtain ⟨a1, a2, a3, a4⟩ := h.sep b hb
  refine ⟨a1, fun y => ?_, a3, a4⟩
  rcases hv b y with z | z
  ·exact a2 z
  ·have := (h.lt hb).2; omega
 ·rcases hv b hb with y | y
  ·exact h.low.2.1 b y
  ·have := h.low.1; omega
variable {l1 l2 : List Pl} {p p' : Pl}
theorem pw_swap (h : (l1 ++ p :: l2).Pairwise PlOff) (hpb : p'.pb = p.pb) (h1 : ∀ q ∈ l1 ++ l2, ∀ b, p'.Own b → q.Own b → p.Own b) : (l1 ++ p' :: l2).Pairwise PlOff := by
 rw [List.pairwise_append] at h ⊢
 obtain ⟨a, b, c⟩ := h
 rw [List.pairwise_cons] at b ⊢
 refine ⟨a, ⟨fun q hq => ?_, b.2⟩, fun x hx y hy => ?_⟩
 ·have := b.1 q hq
  exact ⟨by rw [hpb]; exact this.1, fun j hj hq' => this.2 j (h1 q (List.mem_append.2 (.inr hq)) j hj hq') hq'⟩
 ·rcases List.mem_cons.1 hy with rfl | hy
  ·have := c x hx p (List.mem_cons_self ..)
   exact ⟨by rw [hpb]; exact this.1, fun j hj hq' => this.2 j hj (h1 x (List.mem_append.2 (.inl hx)) j hq' hj)⟩
  ·exact c x hx y (List.mem_cons_of_mem _ hy)
theorem mem_swap {q : Pl} (h : q ∈ l1 ++ p' :: l2) : q = p' ∨ q ∈ l1 ++ l2 := by
 rcases List.mem_append.1 h with h | h
 ·exact .inr (List.mem_append.2 (.inl h))
 ·rcases List.mem_cons.1 h with h | h
  ·exact .inl h
  ·exact .inr (List.mem_append.2 (.inr h))
theorem mem_other {q : Pl} (h : q ∈ l1 ++ l2) : q ∈ l1 ++ p :: l2 := by
 rcases List.mem_append.1 h with h | h
 ·exact List.mem_append.2 (.inl h)
 ·exact List.mem_append.2 (.inr (List.mem_cons_of_mem _ h))
theorem mem_mid : p ∈ l1 ++ p :: l2 := List.mem_append.2 (.inr (List.mem_cons_self ..))
theorem off_other (h : (l1 ++ p :: l2).Pairwise PlOff) {q : Pl} (hq : q ∈ l1 ++ l2) : p.pb ≠ q.pb ∧ ∀ b, p.Own b → ¬ q.Own b := by
 rw [List.pairwise_append] at h
 obtain ⟨a, b, c⟩ := h
 rw [List.pairwise_cons] at b
 rcases List.mem_append.1 hq with hq | hq
 ·have := c q hq p (List.mem_cons_self ..)
  exact ⟨fun e => this.1 e.symm, fun j x y => this.2 j y x⟩
 ·exact b.1 q hq
theorem LS.wrote (h : LS n0 F w wb ps v hs (l1 ++ p :: l2)) {S : Nat → Prop} (st : Step S w w') (hS : ∀ j, S j → p.Own j ∧ PlainR w j) {B pre : List Nat} {e used : Nat} {nm : List Nat} {Own' : Nat → Prop} (hr : Rd p.k (asked p.most) w' p.Rb B pre e used nm Own') (ho : ∀ j, Own' j → p.Own j ∨ w.heap.size ≤ j) (hFl : ∀ b, F b → b < w.heap.size) :
  LS n0 F w' wb ps v hs (l1 ++ { p with B := B, pre := pre, e := e, used := used, nm := nm, Own := Own' } :: l2) := by
 obtain ⟨p', hp'⟩ : ∃ p' : Pl, p' = { p with B := B, pre := pre, e := e, used := used, nm := nm, Own := Own' } := ⟨_, rfl⟩
 rw [← hp']
 have e1 : p'.pb = p.pb := by rw [hp']
 have e2 : p'.Own = Own' := by rw [hp']
 have e3 : p'.cells = p.cells := by rw [hp']; rfl
 have hany : ∀ b, AnyOwn (l1 ++ p' :: l2) b → AnyOwn (l1 ++ p :: l2) b ∨ w.heap.size ≤ b := fun b hb => by
  obtain ⟨q, hq, hb⟩ := hb
  rcases mem_swap hq with rfl | hq
  ·rw [e2] at hb
   exact (ho b hb).imp (fun x => ⟨p, mem_mid, x⟩) id
  ·exact .inl ⟨q, mem_other hq, hb⟩
 have hSo : ∀ j, S j → AnyOwn (l1 ++ p :: l2) j := fun j hj => ⟨p, mem_mid, (hS j hj).1⟩
 have hwl := h.wlt
 have hz := st.size
 have nS : ∀ j, S j → wb < j ∧ v.ownBlock ≠ some j ∧ ps.ownBlock ≠ some j ∧ ∀ q ∈ l1 ++ p :: l2, q.pb ≠ j := fun j hj => h.sep j (hSo j hj)
 refine ⟨⟨st.at_ h.k.blk (fun x => by have := (nS wb x).1; omega), own_step h.k.own st (fun b hb x => (nS b x).2.1 hb), fun q hq => ?_⟩, fun b hb x => ?_, ?_, fun q hq => ?_, fun q hq => ?_, ?_, pw_swap h.apart e1 (fun q hq b hb hqb => ?_), fun b hb => ?_, h.order.step st (fun j hj x => by have := (h.lt (hSo j x)).1; omega), h.w4, h.low.1, h.low.2.1, h.low.2.2.1, fun q hq => ?_⟩
 ·obtain ⟨a1, a2⟩ := h.k.each q hq
  refine ⟨a1.step st (fun x => ?_) (fun k hk x => h.sepF k (a2 k hk) (hSo k x)), a2⟩
  obtain ⟨A, t, b1, _, b3⟩ := (hS _ x).2
  have := a1.hold.blk
  rw [b1] at this
  simp only [Option.some.injEq, Obj.cells.injEq] at this
  exact b3 this.2.1
 ·rcases hany b x with y | y
  ·exact h.sepF b hb y
  ·have := hFl b hb; omega
 ·have h9 := own_step h.row st (fun b hb x => (nS b x).2.2.1 hb)
  have e5 : (l1 ++ p' :: l2).map plPtr = (l1 ++ p :: l2).map plPtr := by simp [plPtr, e1]
  have e6 : (l1 ++ p' :: l2).length = (l1 ++ p :: l2).length := by simp
  rw [e5, e6]
  exact h9
 ·rcases mem_swap hq with rfl | hq
  ·rw [e1, e3]
   exact st.at_ (h.blk p mem_mid) (fun x => (nS _ x).2.2.2 p mem_mid rfl)
  ·exact st.at_ (h.blk q (mem_other hq)) (fun x => (nS _ x).2.2.2 q (mem_other hq) rfl)
 ·rcases mem_swap hq with rfl | hq
  ·rw [hp']
   exact ⟨(h.rd p mem_mid).1, hr⟩
  ·refine ⟨(h.rd q (mem_other hq)).1, (h.rd q (mem_other hq)).2.frame st (fun j hj _ => ?_)⟩
   exact ⟨(h.lt (hSo j hj)).1, (off_other h.apart hq).2 j (hS j hj).1, (hS j hj).2.b⟩
 ·have := h.few
  simpa using this
 ·rcases ho b (by rw [← e2]; exact hb) with y | y
  ·exact y
  ·have := ((h.rd q (mem_other hq)).2.lt hqb).2; omega
 ·rcases hany b hb with y | y
  ·obtain ⟨a1, a2, a3, a4⟩ := h.sep b y
   refine ⟨a1, a2, a3, fun q hq => ?_⟩
   rcases mem_swap hq with rfl | hq
   ·rw [e1]; exact a4 p mem_mid
   ·exact a4 q (mem_other hq)
  ·refine ⟨by omega, fun x => by have := (h.k.own.lt b x).2; omega, fun x => by have := (h.row.lt b x).2; omega, fun q hq => ?_⟩
   have hl : q.pb < w.heap.size := by
    rcases mem_swap hq with rfl | hq
    ·rw [e1]; exact lt_of_block (h.blk p mem_mid)
    ·exact lt_of_block (h.blk q (mem_other hq))
   omega
 ·rcases mem_swap hq with rfl | hq
  ·rw [e1]; exact h.low.2.2.2 p mem_mid
  ·exact h.low.2.2.2 q (mem_other hq)
theorem LS.setPl (h : LS n0 F w wb ps v hs (l1 ++ p :: l2)) (sx : ByteArray) (tx : Nat) (st : Step (· = p.pb) w w') (hb : w'.heap[p.pb]? = some (.cells ({ p with sx := sx, tx := tx } : Pl).cells 87 (0, 0))) : LS n0 F w' wb ps v hs (l1 ++ { p with sx := sx, tx := tx } :: l2) := by
 obtain ⟨p', hp'⟩ : ∃ p' : Pl, p' = { p with sx := sx, tx := tx } := ⟨_, rfl⟩
 rw [← hp'] at hb ⊢
 have e1 : p'.pb = p.pb := by rw [hp']
 have e2 : p'.Own = p.Own := by rw [hp']
 have hpb := h.blk p mem_mid
 have hany : ∀ b, AnyOwn (l1 ++ p' :: l2) b → AnyOwn (l1 ++ p :: l2) b := fun b hb2 => by
  obtain ⟨q, hq, hb2⟩ := hb2
  rcases mem_swap hq with rfl | hq
  ·rw [e2] at hb2
   exact ⟨p, mem_mid, hb2⟩
  ·exact ⟨q, mem_other hq, hb2⟩
 have one : ∀ {b t : Nat} {A : Array Value}, w.heap[b]? = some (.cells A t (0, 0)) → t ≠ 87 → b ≠ p.pb := fun {b t A} hA ht x => by
  rw [x, hpb] at hA
  simp only [Option.some.injEq, Obj.cells.injEq] at hA
  exact ht hA.2.1.symm
 have hwl := h.wlt
 have hlow := h.low
 have hw4 := h.w4
 refine ⟨⟨st.at_ h.k.blk (one h.k.blk (by decide)), own_step h.k.own st (fun b hb x => by obtain ⟨A, hA⟩ := own_row h.k.own hb; exact one hA (by decide) x), fun q hq => ?_⟩, fun b hb x => h.sepF b hb (hany b x), ?_, fun q hq => ?_, fun q hq => ?_, ?_, pw_swap h.apart e1 (fun q hq b hb hqb => by rw [← e2]; exact hb), fun b hb => ?_, h.order.step st (fun j hj x => ?_), h.w4, h.low.1, h.low.2.1, h.low.2.2.1, fun q hq => ?_⟩
 ·obtain ⟨a1, a2⟩ := h.k.each q hq
  refine ⟨a1.step st (fun x => one a1.hold.blk (by decide) x) (fun k hk x => ?_), a2⟩
  obtain ⟨cur, hc⟩ := a1.row k hk
  exact one hc (by decide) x
 ·have h9 := own_step h.row st (fun b hb x => by obtain ⟨A, hA⟩ := own_row h.row hb; exact one hA (by decide) x)
  have e5 : (l1 ++ p' :: l2).map plPtr = (l1 ++ p :: l2).map plPtr := by simp [plPtr, e1]
  have e6 : (l1 ++ p' :: l2).length = (l1 ++ p :: l2).length := by simp
  rw [e5, e6]
  exact h9
 ·rcases mem_swap hq with rfl | hq
  ·rw [e1]; exact hb
  ·exact st.at_ (h.blk q (mem_other hq)) (fun x => (off_other h.apart hq).1 x.symm)
 ·have hfr : ∀ r ∈ l1 ++ p :: l2, ∀ j, j = p.pb → j < w.heap.size → 4 ≤ j ∧ ¬ r.Own j ∧ PlainB w j := fun r hr j hj hl => by
   subst hj
   refine ⟨?_, fun x => (h.sep _ ⟨r, hr, x⟩).2.2.2 p mem_mid rfl, _, _, hpb, by decide⟩
   have := hlow.2.2.2 p mem_mid
   omega
  rcases mem_swap hq with rfl | hq
  ·rw [hp']
   exact ⟨(h.rd p mem_mid).1, (h.rd p mem_mid).2.frame st (hfr p mem_mid)⟩
  ·exact ⟨(h.rd q (mem_other hq)).1, (h.rd q (mem_other hq)).2.frame st (hfr q (mem_other hq))⟩
 ·have := h.few
  simpa using this
 ·obtain ⟨a1, a2, a3, a4⟩ := h.sep b (hany b hb)
  refine ⟨a1, a2, a3, fun q hq => ?_⟩
  rcases mem_swap hq with rfl | hq
  ·rw [e1]; exact a4 p mem_mid
  ·exact a4 q (mem_other hq)
 ·have := hlow.2.2.2 p mem_mid
  omega
 ·rcases mem_swap hq with rfl | hq
  ·rw [e1]; exact h.low.2.2.2 p mem_mid
  ·exact h.low.2.2.2 q (mem_other hq)
end Go.Proofs.YtbpahojchgpdnaaGreatDoor
namespace Go.Proofs.YtbpahojchgpdnaaGreatDoor
open Go.RowKit Go.Bel
theorem bytesOf_add (x y : ByteArray) : bytesOf (x ++ y) = bytesOf x ++ bytesOf y := by simp [bytesOf]
variable {n0 : Nat} {F : Nat → Prop} {w : World} {wb : Nat} {ps v : Value} {hs : List Hd} {l1 l2 : List Pl} {p : Pl}
structure Wr1 (n0 : Nat) (F : Nat → Prop) (w w2 : World) (wb : Nat) (ps v : Value) (hs : List Hd) (l1 l2 : List Pl) (p' : Pl) (s : ByteArray) (vo : Value) (ys : List Nat) : Prop where
 ls : LS n0 F w2 wb ps v hs (l1 ++ p' :: l2)
 off : ∀ j, vo.ownBlock = some j → ¬ AnyOwn (l1 ++ p' :: l2) j
 row : Taken w2 (w.heap.size + 1) vo ys
 lent : RowAt w2 w.heap.size 5 (s.size + 8) (lentCell s)
 offB : ¬ AnyOwn (l1 ++ p' :: l2) w.heap.size
 step : Step (fun j => n0 ≤ j) w w2
theorem Wr1.step0 {w2 w3 : World} {p' : Pl} {s : ByteArray} {vo : Value} {ys : List Nat} (h : Wr1 n0 F w w2 wb ps v hs l1 l2 p' s vo ys) (st : Step (fun _ => False) w2 w3) : Wr1 n0 F w w3 wb ps v hs l1 l2 p' s vo ys :=
 ⟨h.ls.step0 st, h.off, taken_step h.row st (fun _ _ x => x), h.lent.step st (fun x => x), h.offB, h.step.trans (st.mono (fun _ x => x.elim))⟩
theorem write1 (h : LS n0 F w wb ps v hs (l1 ++ p :: l2)) (hok : p.ok) (s : ByteArray) (hsz : p.sx.size + s.size ≤ 1048576) (hF : ∀ b, F b → b < w.heap.size) {w1 W : World} (row : RowAt w1 w.heap.size 5 (s.size + 8) (lentCell s)) (st : Step (fun _ => False) w w1) (hW : Step (fun _ => False) w1 W) :
  Calls Tryz.prog 29 #[.pointer (some ⟨p.Rb, 0, none⟩), .slice (some ⟨w.heap.size, 0, none⟩) s.size (s.size + 8)] W fun r w' => ∃ (va : Option Addr) (len vc x e : Nat) (ys : List Nat) (used : Nat) (nm : List Nat) (Own' : Nat → Prop), r = .returned (.tuple #[.slice va len vc, .int .i64 (x : Nat)]) ∧ (len = ys.length ∧ x = if e = 3 then 0 else e) ∧ Wr1 n0 F w w' wb ps v hs l1 l2 { p with B := p.B ++ bytesOf s, pre := p.pre ++ ys, e := e, used := used, nm := nm, Own := Own' } s (.slice va len vc) ys := by
 have hsW := st.trans hW
 have hl := hsW.size
 have hrl : w.heap.size < w1.heap.size := row.lt
 have hz1 := hW.size
 have hL := h.step0 hsW
 obtain ⟨k2, hrd⟩ := hL.rd p mem_mid
 have hBl : (p.B ++ bytesOf s).length ≤ 2000000 := by
  rw [← hok.1, List.length_append, bytesOf_length, bytesOf_length]
  omega
 have hAB : AllB (p.B ++ bytesOf s) := by
  rw [← hok.1]
  exact (show AllB (bytesOf p.sx) from fun y hy => bytesOf_lt _ y hy).append (fun y hy => bytesOf_lt _ y hy)
 have hsrc := lent_src (row.step hW (fun x => x)) (by omega)
 have hcall := write_ok hrd w.heap.size 0 (s.size + 8) (bytesOf s) hsrc (fun x => by omega) hAB hBl (asked_le _)
 rw [fedA_at (by omega), bytesOf_length] at hcall
 refine hcall.mono ?_
 rintro r w' ⟨vo, e, ys, rfl, hw⟩
 obtain ⟨used, nm, Own', b1, b2, b3⟩ := hw.rd
 obtain ⟨S, c1, c2⟩ := hw.step
 obtain ⟨va, vc, hv⟩ := hw.row.slice
 have hls := hL.wrote c1 c2 b1 b2 (fun b hb => by have := hF b hb; omega)
 have hplt := (h.rd p mem_mid).2
 refine ⟨va, ys.length, vc, _, e, ys, used, nm, Own', by rw [hv], ⟨rfl, rfl⟩, ?_⟩
 rw [← hv]
 refine ⟨hls, fun j hj x => ?_, hw.row.mono (by omega), (row.step hW (fun x => x)).step c1 (fun x => ?_), fun y => ?_, (hsW.mono (fun _ x => x.elim)).trans (c1.mono (fun j x => ?_))⟩
 ·obtain ⟨q, hq, hx⟩ := x
  rcases mem_swap hq with rfl | hq
  ·exact b3 j hj hx
  ·have h1 := ((h.rd q (mem_other hq)).2.lt hx).2
   have h2 := (hw.row.lt j hj).1
   omega
 ·have := (hplt.lt (c2 _ x).1).2
  omega
 ·obtain ⟨q, hq, hx⟩ := y
  rcases mem_swap hq with rfl | hq
  ·rcases b2 _ hx with y | y
   ·have := (hplt.lt y).2; omega
   ·omega
  ·have := ((h.rd q (mem_other hq)).2.lt hx).2
   omega
 ·have := (h.sep j ⟨p, mem_mid, (c2 j x).1⟩).1
  have := h.low.1
  omega
theorem Wr1.setPl {w2 w3 : World} {p' : Pl} {s : ByteArray} {vo : Value} {ys : List Nat} (h : Wr1 n0 F w w2 wb ps v hs l1 l2 p' s vo ys) (hpl : p'.pb < w.heap.size) (sx : ByteArray) (tx : Nat) (st : Step (· = p'.pb) w2 w3) (hb : w3.heap[p'.pb]? = some (.cells ({ p' with sx := sx, tx := tx } : Pl).cells 87 (0, 0))) : Wr1 n0 F w w3 wb ps v hs l1 l2 { p' with sx := sx, tx := tx } s vo ys := by
 have hany : ∀ j, AnyOwn (l1 ++ { p' with sx := sx, tx := tx } :: l2) j → AnyOwn (l1 ++ p' :: l2) j := fun j y => by
  obtain ⟨q, hq, hy⟩ := y
  rcases mem_swap hq with rfl | hq
  ·exact ⟨p', mem_mid, hy⟩
  ·exact ⟨q, mem_other hq, hy⟩
 refine ⟨h.ls.setPl sx tx st hb, fun j hj y => h.off j hj (hany j y), taken_step h.row st (fun j hj y => taken_ne h.row (h.ls.blk _ mem_mid) (by decide) (by rw [hj, y])), h.lent.step st (fun y => by omega), fun y => h.offB (hany _ y), h.step.trans (st.mono (fun j y => ?_))⟩
 have h5 := h.ls.low.2.2.2 _ mem_mid
 have h6 := h.ls.low.1
 omega
theorem slice_tail {W : World} {base : Nat} {vx : Option Addr} {vy : Nat} {out : List Nat} (h : W.ownsRow base 5 1 (.slice vx out.length vy) out.length (u8s out)) (t : Nat) (ht : t ≤ out.length) :
  ∃ a' c', (∀ W', (Instr.slice 31 (.slice vx out.length vy) (some (.int .i64 (t : Int))) none none).run Tryz.prog W' = .ok (.slice a' (out.length - t) c') W') ∧ ∀ W', Step (fun _ => False) W W' → (convert 31 9 (.slice a' (out.length - t) c')).run Tryz.prog W' = .ok (.string (strOf (out.drop t))) W' := by
 have hu := Tryz.underlying31
 obtain ⟨i0, hi, hz0, hz1, hz2⟩ := info_parts Tryz.info5
 have h2 := h
 have g1 : (0 : Int) ≤ (t : Int) := by omega
 obtain ⟨_, ⟨hv, hn⟩ | ⟨g, cap, cur, hv, _, hh, hnc, _⟩⟩ := h
 ·have ho : out = [] := List.eq_nil_of_length_eq_zero hn
  subst ho
  simp only [List.length_nil, Value.slice.injEq] at hv ht
  obtain ⟨rfl, _, rfl⟩ := hv
  obtain rfl : t = 0 := by omega
  refine ⟨none, 0, fun W' => by simp [Instr.slice, Instr.sliceBounds, Instr.sliceBound, asIntOf, run_underlying hu, sizeOf, typeInfo, hi], fun W' _ => ?_⟩
  exact run_convert_bytes_nil W' 31 5 Tryz.underlying31 Tryz.underlying5 0 0 9 Tryz.underlying9
 ·simp only [Value.slice.injEq] at hv
  obtain ⟨rfl, _, rfl⟩ := hv
  have g2 : (t : Int) ≤ (vy : Int) := by omega
  have g3 : (out.length : Int) ≤ (vy : Int) := by omega
  have g4 : (t : Int) ≤ (out.length : Int) := by omega
  have hconv : ∀ off c W', Step (fun _ => False) W W' → (off = t ∨ out.length - t = 0) → (convert 31 9 (.slice (some ⟨g, off, none⟩) (out.length - t) c)).run Tryz.prog W' = .ok (.string (strOf (out.drop t))) W' := fun off c W' hW hoff =>
   run_convert_bytes_arg W' 31 5 Tryz.underlying31 Tryz.underlying5 g off (out.length - t) c ((out.drop t).map (fun x : Nat => (x : Int))) (by simp) (fun j hj => by
    rcases hoff with rfl | hoff
    ·have hc := h2.cellAt (off + j) (by omega)
     rw [hW.cell (p := ⟨g, off + j, none⟩) (v := .int .u8 (out[off + j]?.getD 0 : Nat)) (by rw [hc, u8s_get _ _ (by omega)]) (fun x => x)]
     simp [List.getD, List.getElem?_map, List.getElem?_drop, List.getElem?_eq_getElem (show off + j < out.length by omega)]
    ·omega) 9 Tryz.underlying9
  by_cases hc : vy = t
  ·subst hc
   have e0 : out.length - vy = 0 := by omega
   refine ⟨some ⟨g, 0, none⟩, 0, fun W' => ?_, fun W' hW => hconv 0 0 W' hW (.inr e0)⟩
   simp [Instr.slice, Instr.sliceBounds, Instr.sliceBound, asIntOf, run_underlying hu, sizeOf, typeInfo, hi, hz1]
   omega
  ·refine ⟨some ⟨g, t, none⟩, vy - t, fun W' => ?_, fun W' hW => hconv t _ W' hW (.inl rfl)⟩
   simp [Instr.slice, Instr.sliceBounds, Instr.sliceBound, asIntOf, run_underlying hu, sizeOf, typeInfo, hi, hz1, ht, hc, Addr.add]
   omega
end Go.Proofs.YtbpahojchgpdnaaGreatDoor
namespace Go.Proofs.YtbpahojchgpdnaaGreatDoor
open Go.RowKit Go.Bel
variable {n0 : Nat} {F : Nat → Prop} {w : World} {wb : Nat} {ps v : Value} {hs : List Hd} {l1 l2 : List Pl} {p : Pl}
theorem written_ok (h : LS n0 F w wb ps v hs (l1 ++ p :: l2)) (hok : p.ok) (s : ByteArray) (hsz : p.sx.size + s.size ≤ 1048576) (hl : hs.length ≤ 24000000000) :
  Calls Tryz.prog 46 #[.pointer (some ⟨wb, 0, none⟩), .pointer (some ⟨p.pb, 0, none⟩), .string s] w fun r w' => r = .returned (.bool true) ∧ ∃ v' hs' p' F', LS n0 F' w' wb ps v' hs' (l1 ++ p' :: l2) ∧ p'.ok ∧ p'.sx.size = p.sx.size + s.size ∧ hs'.length = hs.length + 8 ∧ Step (fun j => n0 ≤ j) w w' := by
 have h0 := h.ltF
 have HW := hide (fun w1 row st W hW => write1 h0 hok s hsz (fun b x => x.2) (w1 := w1) (W := W) row st hW)
 have hpl := lt_of_block (h.blk p mem_mid)
 have k0 : w.cell? ⟨p.pb, 0, none⟩ = some (.pointer (some ⟨p.Rb, 0, none⟩)) := blk_cell (h.blk p mem_mid) 0 _ rfl
 have HH := hide h
 have HOK := hide hok
 obtain ⟨hb0, hb1⟩ : s.size ≤ 1048576 ∧ p.sx.size ≤ 1048576 := ⟨by omega, by omega⟩
 clear h h0 hok
 go_enter Tryz.func46, Tryz.ntmps46
 go_wp2_with fail
 refine (lent_ok s w (by omega)).mono ?_
 rintro r w1 ⟨rfl, row1, hs1⟩
 have q0 := hs1.cell k0 (fun x => x)
 have HW1 := hide (fun W hW => unhide HW w1 row1 hs1 W hW)
 have hz1 := hs1.size
 have hbn : (0 : Int) ≤ (s.size : Int) := by omega
 have hbl : (s.size : Int) ≤ (s.size : Int) + 8 := by omega
 clear HW row1 hs1 k0
 go_upto_region 2 with fail
 go_cut [8, 9] (fun o e9 wc => ∃ (va : Option Addr) (len vc x e : Nat) (ys : List Nat) (used : Nat) (nm : List Nat) (Own' : Nat → Prop), o = .slice va len vc ∧ e9 = .int .i64 (x : Nat) ∧ (len = ys.length ∧ x = if e = 3 then 0 else e) ∧ Wr1 n0 (fun b => F b ∧ b < w.heap.size) w wc wb ps v hs l1 l2 { p with B := p.B ++ bytesOf s, pre := p.pre ++ ys, e := e, used := used, nm := nm, Own := Own' } s (.slice va len vc) ys)
 case first =>
  go_region_with (first | (go_at_call 29; refine (unhide HW1 _ ?_).mono ?_; exact (Step.refl (fun _ => False) _).drew; rintro e w2 ⟨va, len, vc, x, e, ys, used, nm, Own', rfl, hlen, hw⟩; have HLEN := hide hlen; clear hlen))
  all_goals
   go_wp2_with fail
   go_meet
  all_goals exact ⟨va, len, vc, x, e, ys, used, nm, Own', rfl, rfl, unhide HLEN, hw⟩
 case rest =>
  obtain ⟨va, len, vc, x, e, ys, used, nm, Own', rfl, rfl, hlen, hw⟩ := hcut
  obtain ⟨w2, h⟩ : ∃ W, W = wc := ⟨_, rfl⟩
  subst h
  have HLEN := hide hlen
  clear hlen HW1
  obtain ⟨p2, hp2⟩ : ∃ p2 : Pl, p2 = { p with B := p.B ++ bytesOf s, pre := p.pre ++ ys, e := e, used := used, nm := nm, Own := Own' } := ⟨_, rfl⟩
  rw [← hp2] at hw
  have hpb : w2.heap[p.pb]? = some (.cells p.cells 87 (0, 0)) := by
   have h9 := hw.ls.blk _ mem_mid
   rw [hp2] at h9
   exact h9
  have hpl2 := lt_of_block hpb
  have c0 : w2.cell? ⟨p.pb, 0, none⟩ = some (.pointer (some ⟨p.Rb, 0, none⟩)) := blk_cell hpb 0 _ rfl
  have c1 : w2.cell? ⟨p.pb, 1, none⟩ = some (.int .i64 (p.k : Nat)) := blk_cell hpb 1 _ rfl
  have c2 : w2.cell? ⟨p.pb, 2, none⟩ = some (.int .i64 p.most) := blk_cell hpb 2 _ rfl
  have c3 : w2.cell? ⟨p.pb, 3, none⟩ = some (.string p.sx) := blk_cell hpb 3 _ rfl
  have c4 : w2.cell? ⟨p.pb, 4, none⟩ = some (.int .i64 (p.tx : Nat)) := blk_cell hpb 4 _ rfl
  have f3 := blk_free hpb 3
  have hnl : ¬ (9223372036854775807 : Int) < (p.sx.size : Int) + (s.size : Int) := by omega
  have hnl2 : ¬ 9223372036854775807 < p.sx.size + s.size := by omega
  /- behind the store of the text -/
  have HW3 := hide (show Wr1 n0 (fun b => F b ∧ b < w.heap.size) w (w2.setCell ⟨p.pb, 3, none⟩ (.string (p.sx ++ s))) wb ps v hs l1 l2 { p2 with sx := p.sx ++ s, tx := p.tx } s (.slice va len vc) ys from by
   have e9 : p2.pb = p.pb := by rw [hp2]
   refine hw.setPl (by rw [e9]; exact hpl) (p.sx ++ s) p.tx (by rw [e9]; exact (Step.refl (· = p.pb) w2).setCell (p := ⟨p.pb, 3, none⟩) rfl _) ?_
   have h9 := blk_set hpb 3 (.string (p.sx ++ s))
   rw [hp2]
   simpa [Pl.cells] using h9)
  /- the reference's answer -/
  have HX := hide (show ∀ W, Calls Tryz.prog 67 #[.int .i64 (p.k : Nat), .string (p.sx ++ s), .int .i64 p.most] W fun r w' => ∃ v', r = .returned (.agg #[.int .i64 (e : Nat), v', .int .i64 (used : Nat), .string (baOf nm)]) ∧ w'.ownsRow W.heap.size 5 1 v' (p.pre ++ ys).length (u8s (p.pre ++ ys)) ∧ Step (fun _ => False) W w' from fun W => by
   obtain ⟨hk2, hrd⟩ := hw.ls.rd _ mem_mid
   have hans := hrd.answer
   rw [hp2] at hans hk2
   refine ref_all p.k (p.sx ++ s) p.most e (p.pre ++ ys) used nm hk2 (by rw [ByteArray.size_append]; omega) ?_ W
   rw [bytesOf_add, (unhide HOK).1]
   exact hans)
  have HP2 := hide hp2
  clear hw hpb hp2
  go_upto_region 4 with fail
  obtain ⟨w3, hw3⟩ : ∃ W, W = w2.setCell ⟨p.pb, 3, none⟩ (.string (p.sx ++ s)) := ⟨_, rfl⟩
  have d1 : w3.cell? ⟨p.pb, 1, none⟩ = some (.int .i64 (p.k : Nat)) := by
   have h9 := blk_cell ((unhide HW3).ls.blk _ mem_mid) 1 _ rfl
   rw [unhide HP2] at h9
   rw [hw3]
   exact h9
  have d2 : w3.cell? ⟨p.pb, 2, none⟩ = some (.int .i64 p.most) := by
   have h9 := blk_cell ((unhide HW3).ls.blk _ mem_mid) 2 _ rfl
   rw [unhide HP2] at h9
   rw [hw3]
   exact h9
  have d3 : w3.cell? ⟨p.pb, 3, none⟩ = some (.string (p.sx ++ s)) := by
   have h9 := blk_cell ((unhide HW3).ls.blk _ mem_mid) 3 _ rfl
   rw [unhide HP2] at h9
   rw [hw3]
   exact h9
  have hpl3 : p.pb < w3.heap.size := by rw [hw3]; simpa using hpl2
  rw [← hw3] at HW3 ⊢
  have n2 : ¬ p.pb = w3.heap.size := by omega
  have n2' : ¬ w3.heap.size = p.pb := by omega
  clear hw3 c0 c1 c2 c3 c4 f3 hpl2 hnl hnl2 q0
  obtain ⟨out, hout⟩ : ∃ out, out = p.pre ++ ys := ⟨_, rfl⟩
  rw [← hout] at HX
  have HOUT := hide hout
  clear hout
  go_cut [10, 48] (fun q r wc => ∃ R1 v1, q = .pointer (some ⟨R1, 0, none⟩) ∧ r = .agg #[.int .i64 (e : Nat), v1, .int .i64 (used : Nat), .string (baOf nm)] ∧ UR w3 wc e used out (baOf nm) R1 v1)
  case first =>
   go_region_held3 (fun w' => w'.cell? ⟨p.pb, 1, none⟩ = some (.int .i64 (p.k : Nat)) ∧ w'.cell? ⟨p.pb, 2, none⟩ = some (.int .i64 p.most) ∧ w'.cell? ⟨p.pb, 3, none⟩ = some (.string (p.sx ++ s))) (go_keep)
    (first
     | (go_at_call 67; refine (unhide HX w3.drew).mono ?_; rintro e w4 ⟨v1, rfl, own1, hs3⟩; obtain ⟨va1, vc1, rfl⟩ := own_slc own1; have k2 := hs3.cell (p := ⟨p.pb, 1, none⟩) (w := w3.drew) d1 (fun x => x); have k4 := hs3.cell (p := ⟨p.pb, 2, none⟩) (w := w3.drew) d2 (fun x => x); have k5 := hs3.cell (p := ⟨p.pb, 3, none⟩) (w := w3.drew) d3 (fun x => x); have hz := hs3.size; have n3 : ¬ p.pb = w4.heap.size := (by simp at hz; omega); have n3' : ¬ w4.heap.size = p.pb := (by simp at hz; omega))
     | (go_at_call 67; refine (unhide HX (w3.alloc (.cells zeroR 45)).drew).mono ?_; rintro e w4 ⟨v1, rfl, own1, hs3⟩; obtain ⟨va1, vc1, rfl⟩ := own_slc own1; have hal := ((Step.refl (fun _ => False) w3).alloc (.cells zeroR 45)).drew; have k2 := hs3.cell (hal.cell d1 (fun x => x)) (fun x => x); have k4 := hs3.cell (hal.cell d2 (fun x => x)) (fun x => x); have k5 := hs3.cell (hal.cell d3 (fun x => x)) (fun x => x); have kz := hs3.at_ (k := w3.heap.size) (heap_alloc_new w3 (.cells zeroR 45)) (fun x => x); have z0 := blk_cell kz 0 _ rfl; have z1 := blk_cell kz 1 _ rfl; have z2 := blk_cell kz 2 _ rfl; have z3 := blk_cell kz 3 _ rfl; have y0 := blk_free kz 0; have y1 := blk_free kz 1; have y2 := blk_free kz 2; have y3 := blk_free kz 3))
   ·go_wp2_with fail
    go_meet
    case rel => exact ⟨_, _, rfl, rfl, heap_alloc_new _ _, ownsRow_mono (own1.alloc _) (Nat.le_refl _), hs3.size, ((Step.refl _ _).drew.trans hs3).alloc _⟩
   ·go_wp2_with fail
    go_meet
    case rel => exact ⟨_, _, rfl, rfl, UR.mk' (hal.trans hs3) kz (ownsRow_mono own1 hal.size) (Nat.le_refl _)⟩
  case rest =>
   obtain ⟨R1, v1, rfl, rfl, U1⟩ := hcut
   obtain ⟨w4, h⟩ : ∃ W, W = wc := ⟨_, rfl⟩
   subst h
   have hw4 := (unhide HW3).step0 U1.step
   obtain ⟨vx, vy, rfl⟩ := own_slc U1.own
   have hpb4 : w4.heap[p.pb]? = some (.cells ({ p with sx := p.sx ++ s } : Pl).cells 87 (0, 0)) := by
    have h9 := hw4.ls.blk _ mem_mid
    rw [unhide HP2] at h9
    exact h9
   have d4 : w4.cell? ⟨p.pb, 4, none⟩ = some (.int .i64 (p.tx : Nat)) := blk_cell hpb4 4 _ rfl
   have f4 := blk_free hpb4 4
   have hpl4 := lt_of_block hpb4
   have hR4 := lt_of_block U1.blk
   have a0 := blk_cell U1.blk 0 _ rfl
   have a1 := blk_cell U1.blk 1 _ rfl
   have hpR : p.pb ≠ R1 := fun y => by
    have h9 := U1.blk
    rw [← y, hpb4] at h9
    cases h9
   have htx : p.tx ≤ out.length := by rw [unhide HOUT, (unhide HOK).2, List.length_append]; omega
   obtain ⟨ta, tc, HSL, HCV⟩ := slice_tail U1.own p.tx htx
   have hys : out.drop p.tx = ys := by rw [unhide HOUT, (unhide HOK).2, List.drop_left]
   rw [hys] at HCV
   have HCO := hide (show ∀ W, Step (fun _ => False) w4 W → (convert 31 9 (.slice va len vc)).run Tryz.prog W = .ok (.string (strOf ys)) W from fun W hW => by
    have h9 := taken_step hw4.row hW (fun _ _ x => x)
    unfold Taken at h9
    exact conv_row h9)
   have HCV2 := hide HCV
   have HSL2 := hide HSL
   have HU1 := hide U1
   have HW4 := hide hw4
   have HPB := hide hpb4
   have HTX := hide htx
   clear hw4 U1 HCV HSL htx hys HX hpb4 d1 d2 d3 n2 n2' HW3
   go_upto_if 52 with fail
   go_cut [11] (fun t wd => t = .int .i64 (x : Nat) ∧ wd = w4)
   case first =>
    by_cases he : e = 3
    ·have hx0 : x = 0 := by rw [(unhide HLEN).2, if_pos he]
     subst he
     subst hx0
     go_wp2_with fail
     go_meet
     case rel => exact ⟨rfl, rfl⟩
    ·have hx0 : x = e := by rw [(unhide HLEN).2, if_neg he]
     have heb : ((e : Int) == 3) = false := beq_eq_false_iff_ne.2 (by omega)
     subst hx0
     go_wp2_with fail
     go_meet
     case rel => exact ⟨rfl, rfl⟩
   case rest =>
    obtain ⟨rfl, hwd⟩ := hcut
    rw [hwd]
    clear hwd
    have HST := hide (still_ok w.heap.size s w4 (unhide HW4).lent (by omega))
    go_wp2_with fail
    refine (unhide HST).mono ?_
    rintro r w5 ⟨rfl, hs5⟩
    have hU5 := hs5.at_ (unhide HU1).blk (fun x => x)
    have hpb5 := hs5.at_ (unhide HPB) (fun x => x)
    have hR5 := lt_of_block hU5
    have hpl5 := lt_of_block hpb5
    have b1 : w5.cell? ⟨R1, 1, none⟩ = some (.slice vx out.length vy) := blk_cell hU5 1 _ rfl
    have e4 : w5.cell? ⟨p.pb, 4, none⟩ = some (.int .i64 (p.tx : Nat)) := blk_cell hpb5 4 _ rfl
    have f5 := blk_free hpb5 4
    have z1 := unhide HCO w5 hs5
    have z2 := fun n => unhide HCO (w5.drewN n) (hs5.drewN n)
    have z3 := unhide HCO w5.drew hs5.drew
    have y1 := unhide HCV2 w5 hs5
    have y2 := fun n => unhide HCV2 (w5.drewN n) (hs5.drewN n)
    have y3 := unhide HCV2 w5.drew hs5.drew
    have sl := unhide HSL2
    have hxx : ((x : Int) == (x : Int)) = true := beq_self_eq_true _
    have HU5 := hide hU5
    have HPB5 := hide hpb5
    have HS5 := hide hs5
    generalize strOf ys = so at *
    obtain ⟨m, hm⟩ : ∃ m, m = out.length - p.tx := ⟨_, rfl⟩
    rw [← hm] at sl y1 y2 y3
    obtain ⟨no, hno⟩ : ∃ n, n = out.length := ⟨_, rfl⟩
    rw [← hno] at sl b1
    have HNO := hide hno
    clear hm hno hU5 hpb5 HST hs5 HCO HCV2 HSL2 a0 a1 d4 f4 HTX
    go_wp2_with fail
    go_quiet (fail)
    obtain ⟨w6, hw6⟩ : ∃ W, W = w5.drewN nq := ⟨_, rfl⟩
    rw [← hw6]
    have hs56 : Step (fun _ => False) w5 w6 := by rw [hw6]; exact (Step.refl _ _).drewN _
    clear hw6 sl y1 y2 y3 z1 z2 z3
    have b1' := hs56.cell b1 (fun x => x)
    have hpb6 := hs56.at_ (unhide HPB5) (fun x => x)
    have e6 : w6.cell? ⟨p.pb, 4, none⟩ = some (.int .i64 (p.tx : Nat)) := blk_cell hpb6 4 _ rfl
    have f6 := blk_free hpb6 4
    have hpl6 := lt_of_block hpb6
    have hw6 := (unhide HW4).step0 ((unhide HS5).trans hs56)
    obtain ⟨p3, hp3⟩ : ∃ p3 : Pl, p3 = { p with B := p.B ++ bytesOf s, pre := p.pre ++ ys, e := e, used := used, nm := nm, Own := Own', sx := p.sx ++ s, tx := no } := ⟨_, rfl⟩
    have HW7 := hide (show Wr1 n0 (fun b => F b ∧ b < w.heap.size) w (w6.setCell ⟨p.pb, 4, none⟩ (.int .i64 (no : Nat))) wb ps v hs l1 l2 p3 s (.slice va len vc) ys from by
     have e9 : ({ p2 with sx := p.sx ++ s, tx := p.tx } : Pl).pb = p.pb := by show p2.pb = p.pb; rw [unhide HP2]
     have h8 := hw6.setPl (by rw [e9]; exact hpl) (p.sx ++ s) no (w3 := w6.setCell ⟨p.pb, 4, none⟩ (.int .i64 (no : Nat))) (by rw [e9]; exact (Step.refl (· = p.pb) w6).setCell (p := ⟨p.pb, 4, none⟩) rfl _) (by
      have h9 := blk_set hpb6 4 (.int .i64 (no : Nat))
      rw [unhide HP2]
      simpa [Pl.cells] using h9)
     rw [unhide HP2] at h8
     rw [hp3]
     exact h8)
    have HP3 := hide hp3
    clear hp3 hw6 hpb6 b1 e4 f5 hs56 HU5 HPB5 HS5 HW4 HU1 HPB HP2
    have HKP := hide (show ∀ w7, w7 = w6.setCell ⟨p.pb, 4, none⟩ (.int .i64 (no : Nat)) → Calls Tryz.prog 70 #[.pointer (some ⟨wb, 0, none⟩), .slice (some ⟨w.heap.size, 0, none⟩) (s.size + 8) (s.size + 8)] w7 fun r w8 => r = .returned (.tuple #[]) ∧ ∃ v8 hs8, LS n0 (KF w7 (fun b => F b ∧ b < w.heap.size) (.slice (some ⟨w.heap.size, 0, none⟩) (s.size + 8) (s.size + 8))) w8 wb ps v8 hs8 (l1 ++ p3 :: l2) ∧ hs8.length = hs.length + 4 ∧ Step (fun j => n0 ≤ j) w w8 ∧ Taken w8 (w.heap.size + 1) (.slice va len vc) ys ∧ (∀ j, (Value.slice va len vc).ownBlock = some j → ¬ AnyOwn (l1 ++ p3 :: l2) j ∧ j < w7.heap.size) from fun w7 e7 => by
     have hW7 := unhide HW7
     rw [← e7] at hW7
     have hls := hW7.ls
     have hz := hW7.step.size
     obtain ⟨ys', ob⟩ := lent_own (base := 4) hW7.lent (by have := (unhide HH).w0; omega) (by unfold maxLen; omega)
     refine (keep_ok 4 wb (s.size + 8) ps v _ hs _ ys' w7 hls.k (fun k hk y => by have := blk_eq hk; omega) ob hls.w0 (by omega) (by omega)).mono ?_
     rintro r w8 ⟨rfl, v8, hs8, K8, hl8, mv8, st8⟩
     have hB : ∀ b, (Value.slice (some ⟨w.heap.size, 0, none⟩) (s.size + 8) (s.size + 8)).ownBlock = some b → w.heap.size = b := fun b hb => blk_eq hb
     have hn0 : n0 ≤ w.heap.size := by have := (unhide HH).low.1; have := (unhide HH).wlt; omega
     have hvo : ∀ j, (Value.slice va len vc).ownBlock = some j → w.heap.size + 1 ≤ j ∧ j < w7.heap.size := fun j hj => hW7.row.lt j hj
     refine ⟨rfl, v8, hs8, hls.kept (vb := .slice (some ⟨w.heap.size, 0, none⟩) (s.size + 8) (s.size + 8)) K8 (fun b hb y => ?_) mv8 st8 (fun j hj => ?_) (fun b hb => ?_) (fun b hb _ => own_row ob hb), hl8, hW7.step.trans (st8.mono (fun j hj => ?_)), taken_step hW7.row st8 (fun j hj y => ?_), fun j hj => ⟨hW7.off j hj, (hvo j hj).2⟩⟩
     ·rcases hb with z | z | z
      ·exact hls.sepF b z y
      ·rw [← hB b z] at y; exact hW7.offB y
      ·have := (hls.lt y).2; omega
     ·rcases hj with z | z | z
      ·exact .inr (.inr z)
      ·exact .inl z
      ·exact .inr (.inl z)
     ·rw [← hB b hb]
      exact ⟨hW7.offB, by have := (unhide HH).w0; omega, hn0⟩
     ·rcases hj with z | z | z
      ·have := hB j z; omega
      ·rw [z]; exact hls.low.1
      ·exact hls.low.2.1 j z
     ·rcases y with z | z | z
      ·have := hB j z; have := hvo j hj; omega
      ·exact taken_ne hW7.row hls.k.blk (by decide) (by rw [hj, z])
      ·obtain ⟨A, hA⟩ := own_row hls.k.own z
       exact taken_ne hW7.row hA (by decide) hj)
    go_wp2_with fail
    refine (unhide HKP _ rfl).mono ?_
    rintro r w8 ⟨rfl, v8, hs8, hls8, hl8, hst8, hrow8, hoff8⟩
    have HFIN := hide (show Calls Tryz.prog 70 #[.pointer (some ⟨wb, 0, none⟩), .slice va len vc] w8 fun r w9 => r = .returned (.tuple #[]) ∧ ∃ v9 hs9 F', LS n0 F' w9 wb ps v9 hs9 (l1 ++ p3 :: l2) ∧ hs9.length = hs.length + 8 ∧ Step (fun j => n0 ≤ j) w w9 from by
     have hz := hst8.size
     have hn : ys.length ≤ 1048576 := by
      obtain ⟨hk2, hrd⟩ := hls8.rd _ mem_mid
      have hans := hrd.answer
      rw [unhide HP3] at hans hk2
      have h1 := rAll_len hk2 hans
      have h2 := asked_le p.most
      rw [List.length_append] at h1
      exact Nat.le_trans (Nat.le_trans (Nat.le_add_left _ _) h1) h2
     have hrow := hrow8
     unfold Taken at hrow
     rw [← (unhide HLEN).1] at hrow
     refine (keep_ok 4 wb len ps v8 _ hs8 _ _ w8 hls8.k (fun k hk y => ?_) (ownsRow_mono hrow (by have := (unhide HH).w0; omega)) hls8.w0 (by have := (unhide HLEN).1; omega) (by omega)).mono ?_
     ·have h1 := hrow8.lt k hk
      have h2 := (hoff8 k hk).2
      rcases y with z | z | z
      ·omega
      ·have := blk_eq z; omega
      ·omega
     ·rintro r w9 ⟨rfl, v9, hs9, K9, hl9, mv9, st9⟩
      have hn0 : n0 ≤ w.heap.size := by have := (unhide HH).low.1; have := (unhide HH).wlt; omega
      refine ⟨rfl, v9, hs9, _, hls8.kept (vb := .slice va len vc) K9 (fun b hb y => ?_) mv9 st9 (fun j hj => ?_) (fun b hb => ⟨(hoff8 b hb).1, by have := (unhide HH).w0; have := (hrow8.lt b hb).1; omega, by have := (hrow8.lt b hb).1; omega⟩) (fun b hb _ => own_row hrow hb), by omega, hst8.trans (st9.mono (fun j hj => ?_))⟩
      ·rcases hb with z | z | z
       ·exact hls8.sepF b z y
       ·exact (hoff8 b z).1 y
       ·have := (hls8.lt y).2; omega
      ·rcases hj with z | z | z
       ·exact .inr (.inr z)
       ·exact .inl z
       ·exact .inr (.inl z)
      ·rcases hj with z | z | z
       ·have := (hrow8.lt j z).1; omega
       ·rw [z]; exact hls8.low.1
       ·exact hls8.low.2.1 j z)
    clear HKP hls8 hl8 hst8 hrow8 hoff8 HW7
    go_wp2_with fail
    refine (unhide HFIN).mono ?_
    rintro r w9 ⟨rfl, v9, hs9, F', hls9, hl9, hst9⟩
    have HE := hide (show ∃ v' hs' p' F', LS n0 F' w9 wb ps v' hs' (l1 ++ p' :: l2) ∧ p'.ok ∧ p'.sx.size = p.sx.size + s.size ∧ hs'.length = hs.length + 8 ∧ Step (fun j => n0 ≤ j) w w9 from by
     refine ⟨v9, hs9, p3, F', hls9, ?_, ?_, hl9, hst9⟩
     ·rw [unhide HP3]
      refine ⟨?_, ?_⟩
      ·show bytesOf (p.sx ++ s) = p.B ++ bytesOf s
       rw [bytesOf_add, (unhide HOK).1]
      ·show no = (p.pre ++ ys).length
       rw [unhide HNO, unhide HOUT]
     ·rw [unhide HP3]
      exact ByteArray.size_append)
    clear hls9 hl9 hst9 HFIN
    go_wp2_with fail
    go_ret
    exact ⟨rfl, unhide HE⟩
end Go.Proofs.YtbpahojchgpdnaaGreatDoor
namespace Go.Proofs.YtbpahojchgpdnaaGreatDoor
open Go.RowKit Go.Bel
variable {n0 : Nat} {F : Nat → Prop} {w : World} {wb : Nat} {ps v : Value} {hs : List Hd} {l1 l2 : List Pl} {p : Pl}
theorem asked_ok (h : LS n0 F w wb ps v hs (l1 ++ p :: l2)) (hok : p.ok) (hsz : p.sx.size ≤ 1048576) :
  Calls Tryz.prog 47 #[.pointer (some ⟨p.pb, 0, none⟩)] w fun r w' => r = .returned (.bool true) ∧ Step (fun _ => False) w w' := by
 obtain ⟨hk2, hrd⟩ := h.rd p mem_mid
 obtain ⟨ra, rb, hRb⟩ := hrd.blk
 have hpb := h.blk p mem_mid
 have k0 : w.cell? ⟨p.pb, 0, none⟩ = some (.pointer (some ⟨p.Rb, 0, none⟩)) := blk_cell hpb 0 _ rfl
 have hpl := lt_of_block hpb
 have HX := hide (show ∀ W, Calls Tryz.prog 67 #[.int .i64 (p.k : Nat), .string p.sx, .int .i64 p.most] W fun r w' => ∃ v', r = .returned (.agg #[.int .i64 (p.e : Nat), v', .int .i64 (p.used : Nat), .string (baOf p.nm)]) ∧ w'.ownsRow W.heap.size 5 1 v' p.pre.length (u8s p.pre) ∧ Step (fun _ => False) W w' from fun W => ref_all p.k p.sx p.most p.e p.pre p.used p.nm hk2 (by omega) (by rw [hok.1]; exact hrd.answer) W)
 have HD := hide (done_ok w p.Rb p.e p.used ra rb (baOf p.nm) hRb)
 have HPB := hide hpb
 have HRB := hide hRb
 obtain ⟨db, hdb⟩ : ∃ db : Bool, db = (p.e == 0) := ⟨_, rfl⟩
 rw [← hdb] at HD
 have hdi : ((p.e : Int) == 0) = db := by
  rw [hdb]
  by_cases he : p.e = 0
  ·rw [he]; rfl
  ·rw [beq_eq_false_iff_ne.2 he, beq_eq_false_iff_ne.2 (by omega)]
 clear hdb h hok hrd hRb hpb
 go_enter Tryz.func47, Tryz.ntmps47
 go_wp2_with fail
 refine (unhide HD).mono ?_
 rintro r w1 ⟨rfl, hs1⟩
 have q0 := hs1.cell k0 (fun x => x)
 have HN := hide (name_ok w1 p.Rb _ _ ra rb (baOf p.nm) (hs1.at_ (unhide HRB) (fun x => x)))
 have HS1 := hide hs1
 clear HD hs1 k0
 go_wp2_with fail
 refine (unhide HN).mono ?_
 rintro r w3 ⟨rfl, rfl⟩
 have hpb3 := (unhide HS1).at_ (unhide HPB) (fun x => x)
 have d1 : w3.cell? ⟨p.pb, 1, none⟩ = some (.int .i64 (p.k : Nat)) := blk_cell hpb3 1 _ rfl
 have d2 : w3.cell? ⟨p.pb, 2, none⟩ = some (.int .i64 p.most) := blk_cell hpb3 2 _ rfl
 have d3 : w3.cell? ⟨p.pb, 3, none⟩ = some (.string p.sx) := blk_cell hpb3 3 _ rfl
 have hpl3 := lt_of_block hpb3
 have n2 : ¬ p.pb = w3.heap.size := by omega
 have n2' : ¬ w3.heap.size = p.pb := by omega
 clear hpb3 HN q0
 generalize baOf p.nm = nmb at *
 go_upto_region 3 with fail
 go_cut [6, 32] (fun q r wc => ∃ R1 v1, q = .pointer (some ⟨R1, 0, none⟩) ∧ r = .agg #[.int .i64 (p.e : Nat), v1, .int .i64 (p.used : Nat), .string nmb] ∧ UR w3 wc p.e p.used p.pre nmb R1 v1)
 case first =>
  go_region_held3 (fun w' => w'.cell? ⟨p.pb, 1, none⟩ = some (.int .i64 (p.k : Nat)) ∧ w'.cell? ⟨p.pb, 2, none⟩ = some (.int .i64 p.most) ∧ w'.cell? ⟨p.pb, 3, none⟩ = some (.string p.sx)) (go_keep)
   (first
    | (go_at_call 67; refine (unhide HX w3.drew).mono ?_; rintro e w4 ⟨v1, rfl, own1, hs3⟩; obtain ⟨va1, vc1, rfl⟩ := own_slc own1; have k2 := hs3.cell (p := ⟨p.pb, 1, none⟩) (w := w3.drew) d1 (fun x => x); have k4 := hs3.cell (p := ⟨p.pb, 2, none⟩) (w := w3.drew) d2 (fun x => x); have k5 := hs3.cell (p := ⟨p.pb, 3, none⟩) (w := w3.drew) d3 (fun x => x); have hz := hs3.size; have n3 : ¬ p.pb = w4.heap.size := (by simp at hz; omega); have n3' : ¬ w4.heap.size = p.pb := (by simp at hz; omega))
    | (go_at_call 67; refine (unhide HX (w3.alloc (.cells zeroR 45)).drew).mono ?_; rintro e w4 ⟨v1, rfl, own1, hs3⟩; obtain ⟨va1, vc1, rfl⟩ := own_slc own1; have hal := ((Step.refl (fun _ => False) w3).alloc (.cells zeroR 45)).drew; have k2 := hs3.cell (hal.cell d1 (fun x => x)) (fun x => x); have k4 := hs3.cell (hal.cell d2 (fun x => x)) (fun x => x); have k5 := hs3.cell (hal.cell d3 (fun x => x)) (fun x => x); have kz := hs3.at_ (k := w3.heap.size) (heap_alloc_new w3 (.cells zeroR 45)) (fun x => x); have z0 := blk_cell kz 0 _ rfl; have z1 := blk_cell kz 1 _ rfl; have z2 := blk_cell kz 2 _ rfl; have z3 := blk_cell kz 3 _ rfl; have y0 := blk_free kz 0; have y1 := blk_free kz 1; have y2 := blk_free kz 2; have y3 := blk_free kz 3))
  ·go_wp2_with fail
   go_meet
   case rel => exact ⟨_, _, rfl, rfl, heap_alloc_new _ _, ownsRow_mono (own1.alloc _) (Nat.le_refl _), hs3.size, ((Step.refl _ _).drew.trans hs3).alloc _⟩
  ·go_wp2_with fail
   go_meet
   case rel => exact ⟨_, _, rfl, rfl, UR.mk' (hal.trans hs3) kz (ownsRow_mono own1 hal.size) (Nat.le_refl _)⟩
 case rest =>
  obtain ⟨R1, v1, rfl, rfl, U1⟩ := hcut
  obtain ⟨w4, h⟩ : ∃ W, W = wc := ⟨_, rfl⟩
  subst h
  obtain ⟨vx, vy, rfl⟩ := own_slc U1.own
  have hR4 := lt_of_block U1.blk
  have a0 := blk_cell U1.blk 0 _ rfl
  have a2 := blk_cell U1.blk 2 _ rfl
  have a3 := blk_cell U1.blk 3 _ rfl
  have HF := hide ((unhide HS1).trans U1.step)
  have hbb : (db == db) = true := beq_self_eq_true _
  clear U1 HX
  go_wp2_with fail
  go_ret
  exact ⟨rfl, unhide HF⟩
end Go.Proofs.YtbpahojchgpdnaaGreatDoor
namespace Go.Proofs.YtbpahojchgpdnaaGreatDoor
open Go.RowKit Go.Bel
variable {n0 : Nat} {F : Nat → Prop} {w w2 w5 : World} {wb : Nat} {ps v : Value} {hs : List Hd} {pls : List Pl}
def newPl (pb Rb k : Nat) (most : Int) (Own : Nat → Prop) : Pl := ⟨pb, Rb, k, most, ⟨#[]⟩, 0, [], [], 3, 0, [], Own⟩
theorem LS.joined (h : LS n0 F w wb ps v hs pls) (hF : ∀ b, F b → b < w.heap.size) (hlen : pls.length < 4) (st : Step (fun _ => False) w w2) {k Rb : Nat} {most : Int} {Own : Nat → Prop} (hk : k ≤ 2) (hr : Rd k (asked most) w2 Rb [] [] 3 0 [] Own) (hnew : ∀ j, Own j → w.heap.size ≤ j)
  {pb : Nat} {ps' : Value} (hpb : w2.heap.size ≤ pb) (hb5 : w5.heap[pb]? = some (.cells (newPl pb Rb k most Own).cells 87 (0, 0))) (row5 : w5.ownsRow 4 85 1 ps' (pls.length + 1) (pls.map plPtr ++ [.pointer (some ⟨pb, 0, none⟩)])) (hps : ∀ b, ps'.ownBlock = some b → ps.ownBlock = some b ∨ w2.heap.size ≤ b) (hK : w5.heap[wb]? = some (.cells #[ps', v] 70 (0, 0))) (st5 : Step (fun j => j = wb ∨ ps.ownBlock = some j) w2 w5) :
  LS n0 F w5 wb ps' v hs (pls ++ [newPl pb Rb k most Own]) := by
 have h2 := h.step0 st
 have z2 := st.size
 have z5 := st5.size
 have hwl := h.wlt
 have hany : ∀ b, AnyOwn (pls ++ [newPl pb Rb k most Own]) b → AnyOwn pls b ∨ Own b := fun b hb => by
  obtain ⟨q, hq, hb⟩ := hb
  rcases List.mem_append.1 hq with hq | hq
  ·exact .inl ⟨q, hq, hb⟩
  ·rw [List.mem_singleton] at hq
   rw [hq] at hb
   exact .inr hb
 have key : ∀ (b t : Nat) (A : Array Value), w2.heap[b]? = some (.cells A t (0, 0)) → t ≠ 70 → t ≠ 85 → ¬ (b = wb ∨ ps.ownBlock = some b) := fun b t A hb t1 t2 x => by
  have one : ∀ (A' : Array Value) (t' : Nat), w2.heap[b]? = some (.cells A' t' (0, 0)) → t = t' := fun A' t' h' => by
   rw [hb] at h'
   simp only [Option.some.injEq, Obj.cells.injEq] at h'
   exact h'.2.1
  rcases x with x | x
  ·exact t1 (one _ _ (by rw [x]; exact h2.k.blk))
  ·obtain ⟨A', hA⟩ := own_row h2.row x
   exact t2 (one _ _ hA)
 have hS4 : ∀ j, (j = wb ∨ ps.ownBlock = some j) → 4 ≤ j ∧ j < w.heap.size := fun j x => by
  rcases x with x | x
  ·have := h.w4; omega
  ·exact ⟨(h.row.lt j x).1, (h.row.lt j x).2⟩
 have hpl : ∀ j, (j = wb ∨ ps.ownBlock = some j) → PlainB w2 j := fun j x => by
  rcases x with x | x
  ·rw [x]; exact ⟨_, _, h2.k.blk, by decide⟩
  ·obtain ⟨A, hA⟩ := own_row h2.row x
   exact ⟨_, _, hA, by decide⟩
 refine ⟨⟨hK, own_step h2.k.own st5 (fun b hb => ?_), fun q hq => ?_⟩, fun b hb x => ?_, ?_, fun q hq => ?_, fun q hq => ?_, by rw [List.length_append, List.length_singleton]; omega, ?_, fun b hb => ?_, h2.order.step st5 (fun j hj x => by have := (hS4 j x).1; omega), h.w4, h.low.1, h.low.2.1, fun b hb => ?_, fun q hq => ?_⟩
 ·obtain ⟨A, hA⟩ := own_row h2.k.own hb
  exact key _ _ _ hA (by decide) (by decide)
 ·obtain ⟨a1, a2⟩ := h2.k.each q hq
  refine ⟨a1.step st5 (key _ _ _ a1.hold.blk (by decide) (by decide)) (fun k hk => ?_), a2⟩
  obtain ⟨cur, hc⟩ := a1.row k hk
  exact key _ _ _ hc (by decide) (by decide)
 ·rcases hany b x with y | y
  ·exact h.sepF b hb y
  ·have := hnew b y; have := hF b hb; omega
 ·rw [List.length_append, List.length_singleton, List.map_append]
  exact row5
 ·rcases List.mem_append.1 hq with hq | hq
  ·exact st5.at_ (h2.blk q hq) (key _ _ _ (h2.blk q hq) (by decide) (by decide))
  ·rw [List.mem_singleton] at hq
   rw [hq]
   exact hb5
 ·rcases List.mem_append.1 hq with hq | hq
  ·refine ⟨(h2.rd q hq).1, (h2.rd q hq).2.frame st5 (fun j hj _ => ⟨(hS4 j hj).1, fun x => ?_, hpl j hj⟩)⟩
   have h3 := h.sep j ⟨q, hq, x⟩
   rcases hj with y | y
   ·omega
   ·exact h3.2.2.1 y
  ·rw [List.mem_singleton] at hq
   rw [hq]
   refine ⟨hk, hr.frame st5 (fun j hj _ => ⟨(hS4 j hj).1, fun x => ?_, hpl j hj⟩)⟩
   have := hnew j x
   have := (hS4 j hj).2
   omega
 ·rw [List.pairwise_append]
  refine ⟨h.apart, List.pairwise_singleton _ _, fun a ha b hb => ?_⟩
  rw [List.mem_singleton] at hb
  rw [hb]
  refine ⟨fun e => ?_, fun j hj x => ?_⟩
  ·have := lt_of_block (h.blk a ha)
   have e : a.pb = pb := e
   omega
  ·have := (h.lt ⟨a, ha, hj⟩).2
   have := hnew j x
   omega
 ·have hbl : b < w2.heap.size := by
   rcases hany b hb with y | y
   ·have := (h.lt y).2; omega
   ·exact (hr.lt y).2
  refine ⟨?_, ?_, fun x => ?_, fun q hq => ?_⟩
  ·rcases hany b hb with y | y
   ·exact (h.sep b y).1
   ·have := hnew b y; omega
  ·rcases hany b hb with y | y
   ·exact (h.sep b y).2.1
   ·intro x; have := (h.k.own.lt b x).2; have := hnew b y; omega
  ·rcases hps b x with z | z
   ·rcases hany b hb with y | y
    ·exact (h.sep b y).2.2.1 z
    ·have := (h.row.lt b z).2; have := hnew b y; omega
   ·omega
  ·rcases List.mem_append.1 hq with hq | hq
   ·rcases hany b hb with y | y
    ·exact (h.sep b y).2.2.2 q hq
    ·have := lt_of_block (h.blk q hq); have := hnew b y; omega
   ·rw [List.mem_singleton] at hq
    rw [hq]
    show pb ≠ b
    omega
 ·have := h.low.1
  rcases hps b hb with z | z
  ·exact h.low.2.2.1 b z
  ·omega
 ·rcases List.mem_append.1 hq with hq | hq
  ·exact h.low.2.2.2 q hq
  ·rw [List.mem_singleton] at hq
   rw [hq]
   show wb < pb
   omega
theorem pickL_ex (c : Int) (n : Nat) (h1 : -9223372036854775808 ≤ c) (h2 : c ≤ 9223372036854775807) (hn : 0 < n) (hn2 : n ≤ 4294967296) :
  ∃ k : Nat, k < n ∧ ∀ w : World, Calls Tryz.prog 45 #[.int .i64 c, .int .i64 (n : Nat)] w fun e w' => e = .returned (.int .i64 (k : Nat)) ∧ w' = w := by
 have hne : ¬ (n : Int) = 0 := by omega
 have hneb : ((n : Int) == 0) = false := beq_eq_false_iff_ne.2 hne
 by_cases hc : c < 0
 ·obtain ⟨m, hm⟩ : ∃ m : Nat, -(c + 1) = (m : Int) := ⟨(-(c + 1)).toNat, by omega⟩
  have HR := hide (show (m : Int) % (n : Int) = ((m % n : Nat) : Int) by simp)
  refine ⟨m % n, Nat.mod_lt m hn, fun w => ?_⟩
  go_enter Tryz.func45, Tryz.ntmps45
  go_wp2
  go_ret
  first | exact ⟨rfl, rfl⟩ | exact ⟨by rw [← unhide HR]; rfl, rfl⟩
 ·obtain ⟨m, rfl⟩ : ∃ m : Nat, c = (m : Int) := ⟨c.toNat, by omega⟩
  have HR := hide (show (m : Int) % (n : Int) = ((m % n : Nat) : Int) by simp)
  refine ⟨m % n, Nat.mod_lt m hn, fun w => ?_⟩
  go_enter Tryz.func45, Tryz.ntmps45
  go_wp2
  go_ret
  first | exact ⟨rfl, rfl⟩ | exact ⟨by rw [← unhide HR]; rfl, rfl⟩
end Go.Proofs.YtbpahojchgpdnaaGreatDoor
