/- Proved here: a law on append to a row of the call's own, as one step of a region that draws its order; nothing of the program. -/
import Derived.Deep.RegionLaw
import Derived.Test.YtbpahojchgpdnaaGreatDoorGround
namespace Go.Bel
open Go Go.RowKit
theorem step_append_row {P : Program} {ops : Array Oper} {o : Oper} {a : Act} {w : World} {K : Act → World → Prop} {Q : Exit → Act → World → Prop} {E : Prop}
  (hg : o.guard = none) (s x : Operand) (t : TypeId) (hop : o.op = Op.call { callee := Callee.builtin Builtin.append, args := #[s, x], argTypes := #[t, t] })
  (base : Nat) (e : TypeId) (i : TypeInfo) (z : Value) (size bytes : Nat) (h1 : P.underlying t = some (.slice e)) (h2 : P.info? e = some i) (h3 : i.zero = some z) (h4 : i.size = size) (h5 : i.bytes = bytes) (h6 : z.cells.size = size) (h7 : 0 < size)
  (v : Value) (n : Nat) (xs : List Value) (hs : a.eval s = v) (hown : w.ownsRow base e size v n xs)
  (ad : Addr) (m c : Nat) (news : List Value) (hx : a.eval x = .slice (some ad) m c) (hn : news.length = m * size) (hc : ∀ j u, news[j]? = some u → w.cell? (ad.add j) = some u) (h1c : ∀ u ∈ news, u.oneCell' = true)
  (hm : 0 < m) (b1 : n + m ≤ maxLen) (b2 : (n + m) * bytes ≤ 140737488355328) (hbase : base ≤ w.heap.size)
  (hK : ∀ g cap w', w'.ownsRow base e size (.slice (some ⟨g, 0, none⟩) (n + m) cap) (n + m) (xs ++ news) → w.grownBy w' v.ownBlock → (v.ownBlock = some g ∨ w.heap.size ≤ g) → K (a.put o.dst (.slice (some ⟨g, 0, none⟩) (n + m) cap)) w') :
  if Region.wanted o (yielded ops a.tmps) = true then Oper.wp P o a w K Q else E := by
 have hw : Region.wanted o (yielded ops a.tmps) = true := by simp [Region.wanted, hg]
 rw [if_pos hw]
 have main : ∀ v' w', (Builtin.append_ #[t, t] o.type #[v, .slice (some ad) m c]).run P w = .ok v' w' → K (a.put o.dst v') w' → Oper.wp P o a w K Q := by
  intro v' w' hrun h
  unfold Oper.wp
  simp [execOp, hop, resolve, invoke, builtin, hs, hx, hrun, Result.andThen]
  exact h
 have fin : ∀ v' w', w'.ownsRow w.heap.size e size v' (n + m) (xs ++ news) → w.grownBy w' none → K (a.put o.dst v') w' := by
  intro v' w' ho hgr
  obtain ⟨g, cap', hv'⟩ : ∃ g cap', v' = .slice (some ⟨g, 0, none⟩) (n + m) cap' := by
   obtain ⟨_, ⟨_, hz⟩ | ⟨g, cap', cur, hv', _⟩⟩ := ho
   ·omega
   ·exact ⟨g, cap', hv'⟩
  subst hv'
  exact hK g cap' w' (ownsRow_mono ho hbase) (grownBy_row hgr) (.inr (ho.lt g rfl).1)
 have hown' := hown
 obtain ⟨hl, ⟨hv, hn0⟩ | ⟨g, cap, cur, hv, hgb, hh, hnc, hcm, hcs, htk⟩⟩ := hown
 ·subst hn0
  have hxs : xs = [] := List.eq_nil_of_length_eq_zero (by omega)
  subst hxs hv
  obtain ⟨v', w', hrun, r1, r2, _⟩ := run_append_own (P := P) w w.heap.size t o.type e i z size bytes h1 h2 h3 h4 h5 h6 h7 (.slice none 0 0) 0 [] (World.ownsRow_nil w _ e size) ad m c news hn hc h1c b1 b2 (Nat.le_refl _)
  exact main v' w' hrun (fin v' w' r1 r2)
 ·by_cases hroom : n + m ≤ cap
  ·subst hv
   obtain ⟨w', hrun, r1, r2⟩ := run_append_fits (P := P) w base t o.type e i size h1 h2 h4 g n cap xs hown' ad m c news hn hc h1c hroom
   exact main _ _ hrun (hK g cap w' r1 r2 (.inl rfl))
  ·subst hv
   obtain ⟨v', w', hrun, r1, r2⟩ := run_append_arg_grows (P := P) w t o.type e i z size bytes h1 h2 h3 h4 h5 h6 h7 ⟨g, 0, none⟩ n cap xs hown'.1 (fun j u hu => hown'.cells rfl j u hu) ad m c news hn hc (by omega) b1 b2
   exact main _ _ hrun (fin v' w' r1 r2)
end Go.Bel
