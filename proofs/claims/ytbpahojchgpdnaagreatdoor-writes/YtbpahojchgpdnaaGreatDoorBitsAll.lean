/- Proved here: a law on append of one thing to a row of the call's own that also says what becomes of the row that it was appended to; nothing of the program. -/
import Derived.Test.YtbpahojchgpdnaaGreatDoorGround
namespace Go.Bel
open Go Go.RowKit
theorem fits_one {n bytes : Nat} (hb : bytes ≤ 8) (hn : n * bytes ≤ 220000000000000) : Builtin.nextslicecap (n + 1) n * bytes ≤ 281474976710656 := by
 have h : Builtin.nextslicecap (n + 1) n ≤ n + n / 4 + 512 := by
  unfold Builtin.nextslicecap
  split
  ·omega
  ·split
   ·omega
   ·rw [growBy_four, if_neg (by omega), if_pos (by omega)]
    omega
 have h2 : Builtin.nextslicecap (n + 1) n * bytes ≤ (n + n / 4 + 512) * bytes := Nat.mul_le_mul_right _ h
 have h3 : (n / 4) * bytes * 4 ≤ n * bytes := by
  rw [Nat.mul_right_comm]
  exact Nat.mul_le_mul_right _ (by omega)
 rw [Nat.add_mul, Nat.add_mul] at h2
 omega
theorem wpList_append_row2 {P : Program} (w : World) {ops : Array Oper} {rest : List Oper} {o : Oper} {a : Act} {Q : Exit → Act → World → Prop}
  (hg : o.guard = none) (s x : Operand) (t : TypeId) (hop : o.op = Op.call { callee := Callee.builtin Builtin.append, args := #[s, x], argTypes := #[t, t] })
  (base : Nat) (e : TypeId) (i : TypeInfo) (z : Value) (bytes : Nat) (h1 : P.underlying t = some (.slice e)) (h2 : P.info? e = some i) (h3 : i.zero = some z) (h4 : i.size = 1) (h5 : i.bytes = bytes) (h6 : z.cells.size = 1)
  (v : Value) (n : Nat) (xs : List Value) (hs : a.eval s = v) (hown : w.ownsRow base e 1 v n xs)
  (ad : Addr) (c : Nat) (u : Value) (hx : a.eval x = .slice (some ad) 1 c) (hc : w.cell? ad = some u) (h1c : u.oneCell' = true)
  (hb : bytes ≤ 8) (b2 : n * bytes ≤ 220000000000000) (hb0 : 0 < bytes) (hbase : base ≤ w.heap.size)
  (hK : ∀ g cap w', w'.ownsRow base e 1 (.slice (some ⟨g, 0, none⟩) (n + 1) cap) (n + 1) (xs ++ [u]) → ((v.ownBlock = some g ∧ w.grownBy w' (some g)) ∨ (w.heap.size ≤ g ∧ w.grownBy w' none)) → wpList P ops Q rest (a.put o.dst (.slice (some ⟨g, 0, none⟩) (n + 1) cap)) w') :
  wpList P ops Q (o :: rest) a w := by
 have hn8 : n ≤ n * bytes := Nat.le_mul_of_pos_right n hb0
 have hmax : n + 1 ≤ maxLen := by unfold maxLen; omega
 have hcs : ∀ j y, [u][j]? = some y → w.cell? (ad.add j) = some y := by
  intro j y hj
  match j, hj with
  | 0, hj => simp at hj; subst hj; simpa [Addr.add] using hc
 have hone : ∀ y ∈ [u], y.oneCell' = true := by intro y hy; simp at hy; subst hy; exact h1c
 have hown' := hown
 obtain ⟨hl, ⟨hv, hn0⟩ | ⟨g, cap, cur, hv, hgb, hh, hnc, hcm, hsz, htk⟩⟩ := hown
 ·subst hn0
  refine wpList_append_grows w hg s x t hop e i z 1 bytes h1 h2 h3 h4 h5 h6 (by decide) none 0 0 xs (hs.trans hv) (fun _ => ⟨rfl, rfl⟩) hl (fun b hb => by cases hb) ad 1 c [u] hx rfl hcs hone (by omega) hmax (by omega) ?_
  intro v' w' ho hgr
  obtain ⟨g, cap', hv'⟩ : ∃ g cap', v' = .slice (some ⟨g, 0, none⟩) (0 + 1) cap' := by
   obtain ⟨_, ⟨_, hz⟩ | ⟨g, cap', cur, hv', _⟩⟩ := ho
   ·omega
   ·exact ⟨g, cap', hv'⟩
  subst hv'
  exact hK g cap' w' (ownsRow_mono ho hbase) (.inr ⟨(ho.lt g rfl).1, hgr⟩)
 ·subst hv
  by_cases hroom : n + 1 ≤ cap
  ·exact wpList_append_fits w hg s x t hop base e i 1 h1 h2 h4 g n cap xs hs hown' ad 1 c [u] hx rfl hcs hone hroom fun w' ho hgr => hK g cap w' ho (.inl ⟨rfl, hgr⟩)
  ·obtain rfl : cap = n := by omega
   refine wpList_plain hg fun K hK' => ?_
   have hcm' : grownCap w (cap + 1) cap e ≤ maxLen := grownCap_le_maxLen w (cap + 1) cap e hmax
   have hge := grownCap_ge w (cap + 1) cap e
   have hrun := run_append_grow (P := P) w t o.type e i z h1 h2 h3 ⟨g, 0, none⟩ cap cap xs (by rw [h4]; exact hl) (hown'.cells rfl) ad 1 c [u] (by rw [h4]; rfl) hcs (by omega) (by omega) (by rw [h5]; exact fits_one hb b2)
   unfold Oper.wp
   simp [execOp, hop, resolve, invoke, builtin, hs, hx, hrun, Result.andThen]
   refine hK' _ _ (hK _ _ _ ⟨?_, .inr ⟨w.heap.size, _, _, rfl, hbase, heap_alloc_new w.drew _, hge, hcm', ?_, ?_⟩⟩ (.inr ⟨Nat.le_refl _, ⟨rfl, rfl, rfl, by simp, fun k hk _ => Below.heap_alloc _ _ _ hk⟩⟩))
   ·simp [hl]
   ·simp only [Array.size_append, List.size_toArray, size_zeroCells, h6, List.length_append, hl, List.length_singleton]
    omega
   ·simp only [Array.toList_append, List.append_assoc]
    rw [← List.append_assoc, show (cap + 1) * 1 = (xs ++ [u]).length by simp [hl]]
    exact List.take_left
end Go.Bel
