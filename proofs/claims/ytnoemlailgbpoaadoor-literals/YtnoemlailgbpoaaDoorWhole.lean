/- Proved here: what the feed's Whole does where the call that it is handed returns. -/
import Derived.Test.YtnoemlailgbpoaaDoorHeads
import Derived.Defers
import Derived.Recover
namespace Go.Proofs.YtnoemlailgbpoaaDoor
open Go.RowKit Go.Bel Go.Maps

theorem whole1_idle (a b c : Value) (w : World) :
    CallsD Tryd.prog 58 #[a, b, c] .returning w fun e u' w' => e = .returned (.tuple #[]) ∧ u' = .returning ∧ w' = w := by
  refine callsD_of_wpS Tryd.func58 rfl fun c₀ cs hu => ?_
  apply wpS_seq
  apply wpS_region
  simp [wpOpsS, go_sem, recoverD, hu, Tryd.ntmps58, Exit.thenS]
  refine wpS_of_wp ?_
  go_wp2
  cases c₀
  simp_all [bodyPostS, results, Tryd.results58]

set_option maxRecDepth 20000 in
set_option maxHeartbeats 1000000 in
theorem whole_ok (f d p : Nat) (s : Value) (x : Int) (w : World) (Post : World → World → Prop)
    (hF : w.heap[f]? = some (.cells #[s, .int .i64 (p : Nat)] 86 (0, 0)))
    (hcall : ∀ w1, Step (fun _ => False) w w1 → w1.heap.size = w.heap.size + 3 → w1.heap[w.heap.size + 1]? = some (.cells #[.int .i64 0] 36 (0, 0)) → Calls Tryd.prog 47 #[.pointer (some ⟨d, 0, none⟩)] w1 fun e w' => e = .returned (.int .i64 x) ∧ Post w1 w')
    (hkeep : ∀ w1 w', Step (fun _ => False) w w1 → w1.heap.size = w.heap.size + 3 → Post w1 w' → w'.heap[w.heap.size + 1]? = w1.heap[w.heap.size + 1]?) :
    Calls Tryd.prog 48 #[.pointer (some ⟨f, 0, none⟩), .func (.func 47) #[.pointer (some ⟨d, 0, none⟩)] #[]] w
      fun e w'' => e = .returned (.int .i64 x) ∧ ∃ w1 w', Step (fun _ => False) w w1 ∧ w1.heap.size = w.heap.size + 3 ∧ Post w1 w' ∧ w'' = w'.setCell ⟨w.heap.size + 1, 0, none⟩ (.int .i64 x) := by
  obtain ⟨_, c1, _, _⟩ := blk_two hF
  have hflt := lt_of_block hF
  have HF := hide hF
  have HC := hide hcall
  have HK := hide hkeep
  clear hF hcall hkeep
  have hmf : ∀ (fn : Fn) (first cap : Array Value) (w : World), (Instr.makeFunc fn first cap).run Tryd.prog w = .ok (.func fn first cap) w := fun _ _ _ _ => rfl
  go_enter_defers Tryd.func48, Tryd.ntmps48
  go_wp2_with fail
  have hst : Step (fun _ => False) w (((w.alloc (.cells #[.pointer (some ⟨f, 0, none⟩)] 65)).alloc (.cells #[.int .i64 0] 36)).alloc (.cells #[.int .i64 (p : Nat)] 3)) := (((Step.refl _ _).alloc _).alloc _).alloc _
  have hsz : (((w.alloc (.cells #[.pointer (some ⟨f, 0, none⟩)] 65)).alloc (.cells #[.int .i64 0] 36)).alloc (.cells #[.int .i64 (p : Nat)] 3)).heap.size = w.heap.size + 3 := by simp
  have hr : (((w.alloc (.cells #[.pointer (some ⟨f, 0, none⟩)] 65)).alloc (.cells #[.int .i64 0] 36)).alloc (.cells #[.int .i64 (p : Nat)] 3)).heap[w.heap.size + 1]? = some (.cells #[.int .i64 0] 36 (0, 0)) := (Below.heap_alloc _ _ _ (by simp)).trans (heap_alloc2_new _ _ _)
  generalize (((w.alloc (.cells #[.pointer (some ⟨f, 0, none⟩)] 65)).alloc (.cells #[.int .i64 0] 36)).alloc (.cells #[.int .i64 (p : Nat)] 3)) = w1 at *
  refine (unhide HC w1 hst hsz hr).mono ?_
  rintro e w2 ⟨rfl, hpost⟩
  have hb := (unhide HK w1 w2 hst hsz hpost).trans hr
  have r0 := cell_of_one hb
  have rf := free_of_one hb
  have HP := hide hpost
  clear hb hr hpost
  go_wp2_with fail
  refine leaves_cons (f := 58) (args := #[.pointer (some ⟨w.heap.size + 1 + 1, 0, none⟩), .pointer (some ⟨w.heap.size, 0, none⟩), .pointer (some ⟨w.heap.size + 1, 0, none⟩)]) (by simp) (by simp [go_sem]) ?_
  refine (whole1_idle _ _ _ _).mono ?_
  rintro e u' w'' ⟨rfl, rfl, rfl⟩
  have hfin : ∃ w1 w', Step (fun _ => False) w w1 ∧ w1.heap.size = w.heap.size + 3 ∧ Post w1 w' ∧ w2.setCell ⟨w.heap.size + 1, 0, none⟩ (.int .i64 x) = w'.setCell ⟨w.heap.size + 1, 0, none⟩ (.int .i64 x) := ⟨w1, w2, hst, hsz, unhide HP, rfl⟩
  refine ⟨.int .i64 x, ?_, rfl, hfin⟩
  simp [results, Tryd.results48, go_sem, r0]
end Go.Proofs.YtnoemlailgbpoaaDoor
