/- Proved here: of what is bare the program and the reference answer the same. -/
import Derived.Test.YtbpahojchgpdnaaGreatDoorTellsX
import Derived.Test.YtbpahojchgpdnaaGreatDoorLaw
namespace Go.Proofs.YtbpahojchgpdnaaGreatDoor
open Go.RowKit Go.Bel
theorem lent_src {w : World} {B : Nat} {b : ByteArray} (h : RowAt w B 5 (b.size + 8) (lentCell b)) (hb : b.size ≤ 140737488351232) : Go.Bel.Src w B 0 (bytesOf b) := by
 refine ⟨fun i hi => ?_, fun i => ?_, by rw [bytesOf_length]; exact hb⟩
 ·rw [bytesOf_length] at hi
  rw [Nat.zero_add, h.cell i (by omega)]
  unfold lentCell
  rw [if_pos hi]
 ·by_cases hi : i < (bytesOf b).length
  ·rw [List.getElem?_eq_getElem hi]
   exact bytesOf_lt b _ (List.getElem_mem hi)
  ·rw [List.getElem?_eq_none (by omega)]
   decide
theorem lent_own {w : World} {B n base : Nat} {f : Nat → Value} (h : RowAt w B 5 n f) (hb : base ≤ B) (hn : n ≤ maxLen) : ∃ ys, w.ownsRow base 5 1 (.slice (some ⟨B, 0, none⟩) n n) n ys := by
 obtain ⟨A, h1, h2, _⟩ := h
 refine ⟨A.toList, by simp [h2], .inr ⟨B, n, A, rfl, hb, h1, Nat.le_refl _, hn, by omega, ?_⟩⟩
 rw [List.take_of_length_le (by simp [h2])]
theorem KAt.lt {w : World} {base wb : Nat} {ps v : Value} {hs : List Hd} {F : Nat → Prop} (K : KAt w base wb ps v hs F) : KAt w base wb ps v hs (fun k => k < w.heap.size) :=
 ⟨K.blk, K.own, fun q hq => ⟨(K.each q hq).1, fun _ hk => (K.each q hq).1.lt hk⟩⟩
end Go.Proofs.YtbpahojchgpdnaaGreatDoor
namespace Go.Proofs.YtbpahojchgpdnaaGreatDoor
open Go.RowKit Go.Bel
theorem own_slc {W : World} {base e n : Nat} {u : Value} {xs : List Value} (h : W.ownsRow base e 1 u n xs) : ∃ a c, u = .slice a n c := by
 obtain ⟨_, ⟨hv, hz⟩ | ⟨g, cap, _, hv, _⟩⟩ := h
 ·exact ⟨none, 0, by rw [hv, hz]⟩
 ·exact ⟨_, _, hv⟩
theorem blk_eq {B n c k : Nat} (h : (Value.slice (some ⟨B, 0, none⟩) n c).ownBlock = some k) : B = k := by simpa [Value.ownBlock] using h
def opV (kind nn wrap way : Int) (b : ByteArray) (most : Int) : Value := .agg #[.int .i64 kind, .int .i64 nn, .int .i64 wrap, .int .i64 way, .string b, .int .i64 most]
end Go.Proofs.YtbpahojchgpdnaaGreatDoor
namespace Go.Proofs.YtbpahojchgpdnaaGreatDoor
open Go.RowKit Go.Bel
structure OpS where
 kind : Int
 nn : Int
 wrap : Int
 way : Int
 s : ByteArray
 most : Int
def OpS.cell (o : OpS) : Nat → Value
 | 0 => .int .i64 o.kind
 | 1 => .int .i64 o.nn
 | 2 => .int .i64 o.wrap
 | 3 => .int .i64 o.way
 | 4 => .string o.s
 | _ => .int .i64 o.most
structure ScriptAt (w : World) (g off : Nat) (ops : List OpS) : Prop where
 cell : ∀ i o, ops[i]? = some o → ∀ j, j < 6 → w.cell? ⟨g, off + i * 6 + j, none⟩ = some (o.cell j)
 there : ops ≠ [] → g < w.heap.size
theorem ScriptAt.step {S : Nat → Prop} {w w' : World} {g off : Nat} {ops : List OpS} (h : ScriptAt w g off ops) (hs : Step S w w') (hn : ¬ S g) : ScriptAt w' g off ops :=
 ⟨fun i o hi j hj => hs.cell (h.cell i o hi j hj) hn, fun he => Nat.lt_of_lt_of_le (h.there he) hs.size⟩
def Holds (w : World) (v : Value) (ops : List OpS) : Prop :=
 (∃ a c, v = .slice a 0 c ∧ ops = []) ∨ ∃ g off cap, v = .slice (some ⟨g, off, none⟩) ops.length cap ∧ ScriptAt w g off ops
end Go.Proofs.YtbpahojchgpdnaaGreatDoor
namespace Go.Proofs.YtbpahojchgpdnaaGreatDoor
open Go.RowKit Go.Bel
def opCells (ops : List OpS) : List Value := ops.flatMap fun o => [.int .i64 o.kind, .int .i64 o.nn, .int .i64 o.wrap, .int .i64 o.way, .string o.s, .int .i64 o.most]
theorem opCells_length (ops : List OpS) : (opCells ops).length = ops.length * 6 := by
 induction ops with
 | nil => rfl
 | cons o os ih =>
  have : opCells (o :: os) = [.int .i64 o.kind, .int .i64 o.nn, .int .i64 o.wrap, .int .i64 o.way, .string o.s, .int .i64 o.most] ++ opCells os := by simp [opCells]
  rw [this, List.length_append, ih]
  simp
  omega
theorem opCells_get (ops : List OpS) : ∀ i o, ops[i]? = some o → ∀ j, j < 6 → (opCells ops)[i * 6 + j]? = some (o.cell j) := by
 induction ops with
 | nil => intro i o h; simp at h
 | cons x os ih =>
  intro i o h j hj
  have e : opCells (x :: os) = [.int .i64 x.kind, .int .i64 x.nn, .int .i64 x.wrap, .int .i64 x.way, .string x.s, .int .i64 x.most] ++ opCells os := by simp [opCells]
  rw [e]
  cases i with
  | zero =>
   simp only [List.getElem?_cons_zero, Option.some.injEq] at h
   subst h
   rw [List.getElem?_append_left (by simp; omega)]
   match j, hj with
   | 0, _ => rfl
   | 1, _ => rfl
   | 2, _ => rfl
   | 3, _ => rfl
   | 4, _ => rfl
   | 5, _ => rfl
   | n + 6, h => omega
  | succ k =>
   rw [List.getElem?_cons_succ] at h
   rw [List.getElem?_append_right (by simp; omega)]
   have := ih k o h j hj
   rw [← this]
   congr 1
   simp
   omega
theorem script_of_row {w : World} {g : Nat} {A : Array Value} {t : TypeId} {ops : List OpS} (hb : w.heap[g]? = some (.cells A t (0, 0))) (hA : A.toList.take (ops.length * 6) = opCells ops) : ScriptAt w g 0 ops := by
 refine ⟨fun i o hi j hj => ?_, fun _ => lt_of_block hb⟩
 rw [Nat.zero_add]
 refine blk_cell hb _ _ ?_
 have h := opCells_get ops i o hi j hj
 have hl : i < ops.length := by
  rcases Nat.lt_or_ge i ops.length with h | h
  ·exact h
  ·rw [List.getElem?_eq_none h] at hi; cases hi
 rw [← hA, List.getElem?_take_of_lt (by omega)] at h
 simpa using h
def examples (wrap : Int) : List OpS :=
 [⟨1, 0, 0, 0, ⟨#[75, 4, 0]⟩, 9⟩, ⟨1, 0, 0, 0, ⟨#[3, 2]⟩, 9⟩, ⟨1, 0, wrap, 0, ⟨#[]⟩, 9⟩, ⟨2, 0, 0, 0, ⟨#[]⟩, 9⟩, ⟨3, 0, 0, 0, ⟨#[75, 4]⟩, 0⟩, ⟨3, 0, 0, 0, ⟨#[0]⟩, 0⟩, ⟨4, 0, 0, 0, ⟨#[]⟩, 0⟩, ⟨5, 0, 0, 2, ⟨#[97, 97, 97, 97, 97, 97, 97, 97, 97, 97, 97, 97, 97, 97, 97, 97]⟩, 0⟩]
end Go.Proofs.YtbpahojchgpdnaaGreatDoor
