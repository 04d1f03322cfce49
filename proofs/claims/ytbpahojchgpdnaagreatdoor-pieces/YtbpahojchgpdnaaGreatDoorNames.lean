/- Proved here: what pick and check answer. -/
import Derived.Deep.DeepCutAuto
import Derived.Lib.AppendStr
import Derived.Test.YtbpahojchgpdnaaGreatDoorOwn
import Derived.Lib.LaidTab
set_option maxRecDepth 20000
set_option maxHeartbeats 4000000
namespace Go.Proofs.YtbpahojchgpdnaaGreatDoor
open Go.RowKit Go.Bel
theorem pick_ex (c : Int) (n : Nat) (h1 : -9223372036854775808 ≤ c) (h2 : c ≤ 9223372036854775807) (hn : 0 < n) (hn2 : n ≤ 4294967296) :
  ∃ k : Nat, k < n ∧ ∀ w : World, Calls Tryz.prog 19 #[.int .i64 c, .int .i64 (n : Nat)] w fun e w' => e = .returned (.int .i64 (k : Nat)) ∧ w' = w := by
 have hne : ¬ (n : Int) = 0 := by omega
 have hneb : ((n : Int) == 0) = false := beq_eq_false_iff_ne.2 hne
 by_cases hc : c < 0
 ·obtain ⟨m, hm⟩ : ∃ m : Nat, -(c + 1) = (m : Int) := ⟨(-(c + 1)).toNat, by omega⟩
  have HR := hide (show (m : Int) % (n : Int) = ((m % n : Nat) : Int) by simp)
  refine ⟨m % n, Nat.mod_lt m hn, fun w => ?_⟩
  go_enter Tryz.func19, Tryz.ntmps19
  go_wp2
  go_ret
  first | exact ⟨rfl, rfl⟩ | exact ⟨by rw [← unhide HR]; rfl, rfl⟩
 ·obtain ⟨m, rfl⟩ : ∃ m : Nat, c = (m : Int) := ⟨c.toNat, by omega⟩
  have HR := hide (show (m : Int) % (n : Int) = ((m % n : Nat) : Int) by simp)
  refine ⟨m % n, Nat.mod_lt m hn, fun w => ?_⟩
  go_enter Tryz.func19, Tryz.ntmps19
  go_wp2
  go_ret
  first | exact ⟨rfl, rfl⟩ | exact ⟨by rw [← unhide HR]; rfl, rfl⟩
end Go.Proofs.YtbpahojchgpdnaaGreatDoor
namespace Go.Proofs.YtbpahojchgpdnaaGreatDoor
open Go.RowKit Go.Bel Go.Maps
def leftmost (n : Nat) : Code → Bool
 | .region k _ _ => k == n
 | .seq a _ => leftmost n a
 | _ => false
def codeFrom (n : Nat) : Code → Option Code
 | .seq a b => if leftmost n (.seq a b) then some (.seq a b) else match codeFrom n b with
  | some c => some c
  | none => codeFrom n a
 | .block _ c => codeFrom n c
 | .scope c => codeFrom n c
 | _ => none
end Go.Proofs.YtbpahojchgpdnaaGreatDoor
namespace Go.Proofs.YtbpahojchgpdnaaGreatDoor
open Go.RowKit Go.Bel
theorem cellsRep : Tryz.prog.cellsOf 258 = 3 := by kernel_rfl
theorem cellsInt : Tryz.prog.cellsOf 3 = 1 := by kernel_rfl
theorem cellsOrd : Tryz.prog.cellsOf 216 = 19 := by kernel_rfl
theorem three3 {α : Type} (l : List α) (h : l.length = 3) : ∃ a b c, l = [a, b, c] := by
 match l, h with
 | [a, b, c], _ => exact ⟨a, b, c, rfl⟩
theorem rep_cells {W : World} {fuel : Nat} {cs : List Value} {a b c : Int} {p : List MemPlace} (h : DataW.trod (fun _ => ()) Tryz.prog W 0 (fun _ => true) false fuel 258 cs = some (.agg [.lit (.int .i64 a), .lit (.int .i64 b), .lit (.int .i64 c)], p)) :
  cs = [.int .i64 a, .int .i64 b, .int .i64 c] := by
 obtain ⟨xs, n, rfl, hx, hl, hxl, hf⟩ := DataW.trod_struct Tryz.underlying258 h
 rw [cellsRep] at hl
 have h0 : DataW.trod (fun _ => ()) Tryz.prog W 0 (fun _ => true) false n 3 ((cs.drop 0).take (Tryz.prog.cellsOf 3)) = xs[0]? := hf 0 _ rfl
 have h1 : DataW.trod (fun _ => ()) Tryz.prog W 0 (fun _ => true) false n 3 ((cs.drop 1).take (Tryz.prog.cellsOf 3)) = xs[1]? := hf 1 _ rfl
 have h2 : DataW.trod (fun _ => ()) Tryz.prog W 0 (fun _ => true) false n 3 ((cs.drop 2).take (Tryz.prog.cellsOf 3)) = xs[2]? := hf 2 _ rfl
 rw [cellsInt] at h0 h1 h2
 obtain ⟨x0, x1, x2, rfl⟩ := three3 xs hxl
 obtain ⟨n0, e0, y0, _⟩ := DataW.trod_int Tryz.underlying3 h0
 obtain ⟨n1, e1, y1, _⟩ := DataW.trod_int Tryz.underlying3 h1
 obtain ⟨n2, e2, y2, _⟩ := DataW.trod_int Tryz.underlying3 h2
 clear h h0 h1 h2 hf hxl
 obtain ⟨c0, c1, c2, rfl⟩ := three3 cs hl
 simp only [List.drop, List.take, List.cons.injEq, and_true] at e0 e1 e2
 subst e0 e1 e2 y0 y1 y2
 have hx1 := congrArg Prod.fst hx
 simp only [List.map, DataW.agg.injEq, List.cons.injEq, DataW.lit.injEq, Lit.int.injEq, true_and, and_true] at hx1
 obtain ⟨rfl, rfl, rfl⟩ := hx1
 rfl
theorem rep_head {W : World} {name : String} {a b c : Int} {rest : List (String × DataW Unit)} {ps : List MemPlace} {g : Nat} (hg : Tryz.prog.globalNamed name = some g) (hty : (Tryz.prog.globals[g]?).map (·.type) = some 258)
  (h : DataW.LaidVars Tryz.prog W ((name, .agg [.lit (.int .i64 a), .lit (.int .i64 b), .lit (.int .i64 c)]) :: rest) ps) :
  (W.cell? ⟨g, 0, none⟩ = some (.int .i64 a) ∧ W.cell? ⟨g, 1, none⟩ = some (.int .i64 b) ∧ W.cell? ⟨g, 2, none⟩ = some (.int .i64 c)) ∧ ∃ q, DataW.LaidVars Tryz.prog W rest q := by
 obtain ⟨g', t', cs, fuel, p, q, hg', ht', hvar, hd, hr, _⟩ := h
 obtain rfl := Option.some.inj (hg.symm.trans hg')
 obtain rfl := Option.some.inj (hty.symm.trans ht')
 have hc := rep_cells hd
 have e : cs = #[.int .i64 a, .int .i64 b, .int .i64 c] := by
  apply Array.toList_inj.1
  exact hc
 subst e
 exact ⟨⟨World.var?_cell hg hvar 0, World.var?_cell hg hvar 1, World.var?_cell hg hvar 2⟩, q, hr⟩
theorem ord_head {W : World} {rest : List (String × DataW Unit)} {ps : List MemPlace} (hg : Tryz.prog.globalNamed "bellows/bare.firstOrder" = some 0) (hty : (Tryz.prog.globals[0]?).map (·.type) = some 216)
  (h : DataW.LaidVars Tryz.prog W (("bellows/bare.firstOrder", Lib.tabData .i64 [16, 17, 18, 0, 8, 7, 9, 6, 10, 5, 11, 4, 12, 3, 13, 2, 14, 1, 15]) :: rest) ps) :
  (∀ i : Nat, i < 19 → W.cell? ⟨0, i, none⟩ = some (.int .i64 (orderList[i]?.getD 0 : Nat))) ∧ ∃ q, DataW.LaidVars Tryz.prog W rest q := by
 obtain ⟨g', t', cs, fuel, p, q, hg', ht', hvar, hd, hr, _⟩ := h
 obtain rfl := Option.some.inj (hg.symm.trans hg')
 obtain rfl := Option.some.inj (hty.symm.trans ht')
 have hc := Lib.cells_of_tab Tryz.underlying216 Tryz.underlying3 cellsInt cellsOrd hd
 refine ⟨fun i hi => ?_, q, hr⟩
 rw [World.var?_cell hg hvar i, ← Array.getElem?_toList, hc]
 match i, hi with
 | 0, _ => rfl | 1, _ => rfl | 2, _ => rfl | 3, _ => rfl | 4, _ => rfl | 5, _ => rfl | 6, _ => rfl | 7, _ => rfl | 8, _ => rfl | 9, _ => rfl
 | 10, _ => rfl | 11, _ => rfl | 12, _ => rfl | 13, _ => rfl | 14, _ => rfl | 15, _ => rfl | 16, _ => rfl | 17, _ => rfl | 18, _ => rfl
 | n + 19, h => omega
end Go.Proofs.YtbpahojchgpdnaaGreatDoor
