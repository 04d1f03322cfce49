/- Proved here: what the feed's Whole does, whether the call that it is handed returns or misses bits. -/
import Derived.Test.YtbpahojchgpdnaaGreatDoorGHead2
import Derived.Test.YtbpahojchgpdnaaGreatDoorWhole
namespace Go.Proofs.YtbpahojchgpdnaaGreatDoor
open Go.RowKit Go.Bel Go.Maps

theorem isMissing (w : World) : (Instr.typeAssert (.iface 197 (.agg #[])) 20 197 true).run Tryz.prog w = .ok (.tuple #[.agg #[], .bool true]) w := by kernel_rfl

set_option maxRecDepth 20000 in
set_option maxHeartbeats 1000000 in
theorem whole1_lost {z : Nat} (R f p q : Nat) (s : Value) (x : Int) (w : World) (h0 : w.cell? ⟨R, 0, none⟩ = some (.pointer (some ⟨f, 0, none⟩))) (h2 : w.cell? ⟨R + 1 + 1, 0, none⟩ = some (.int .i64 (p : Nat)))
    (hF : w.heap[f]? = some (.cells #[s, .int .i64 (q : Nat), .int .i64 (z : Nat)] 91 (0, 0))) (h1 : w.heap[R + 1]? = some (.cells #[.int .i64 x] 43 (0, 0))) (hne : ¬ f = R + 1) :
    CallsD Tryz.prog 154 #[.pointer (some ⟨R + 1 + 1, 0, none⟩), .pointer (some ⟨R, 0, none⟩), .pointer (some ⟨R + 1, 0, none⟩)] (.panicking [{ v := missing, recovered := false }]) w
      fun e u' w' => e = .returned (.tuple #[]) ∧ u' = .panicking [{ v := missing, recovered := true }] ∧ Step (fun k => k = f ∨ k = R + 1) w w' ∧ w'.heap[f]? = some (.cells #[s, .int .i64 (p : Nat), .int .i64 (z : Nat)] 91 (0, 0)) ∧ w'.heap[R + 1]? = some (.cells #[.int .i64 3] 43 (0, 0)) := by
  have hs : ∀ o, Step (fun _ => False) w (w.alloc o) := fun o => (Step.refl _ _).alloc o
  have g0 : ∀ o, (w.alloc o).cell? ⟨R, 0, none⟩ = some (.pointer (some ⟨f, 0, none⟩)) := fun o => (hs o).cell h0 (fun x => x)
  have g2 : ∀ o, (w.alloc o).cell? ⟨R + 1 + 1, 0, none⟩ = some (.int .i64 (p : Nat)) := fun o => (hs o).cell h2 (fun x => x)
  have c1 : ∀ o, (w.alloc o).cell? ⟨f, 1, none⟩ = some (.int .i64 (q : Nat)) := fun o => (blk_three ((hs o).at_ hF (fun x => x))).2.1
  have fr1 : ∀ o, (w.alloc o).frozen? ⟨f, 1, none⟩ = false := fun o => (blk_three ((hs o).at_ hF (fun x => x))).2.2.2.1
  have r0 : ∀ o, (w.alloc o).cell? ⟨R + 1, 0, none⟩ = some (.int .i64 x) := fun o => cell_of_one ((hs o).at_ h1 (fun x => x))
  have rf : ∀ o, (w.alloc o).frozen? ⟨R + 1, 0, none⟩ = false := fun o => free_of_one ((hs o).at_ h1 (fun x => x))
  have hfl := lt_of_block hF
  have hrl := lt_of_block h1
  have d1 := (blk_three hF).2.1
  have d2 := (blk_three hF).2.2.2.1
  have d3 := cell_of_one h1
  have d4 := free_of_one h1
  have HF := hide hF
  have H1 := hide h1
  clear hs hF h1
  refine callsD_of_wpS Tryz.func154 rfl fun c₀ cs hu => ?_
  apply wpS_seq
  apply wpS_region
  simp [wpOpsS, go_sem, recoverD, hu, Tryz.ntmps154, Exit.thenS]
  refine wpS_of_wp ?_
  unfold missing
  have hta := isMissing
  go_wp2_with fail
  have hf1 := blk_set (unhide HF) 1 (.int .i64 (p : Nat))
  have hr1 := (show (w.setCell ⟨f, 1, none⟩ (.int .i64 (p : Nat))).heap[R + 1]? = w.heap[R + 1]? from Below.heap_setCell _ _ _ _ (fun x => hne x.symm)).trans (unhide H1)
  refine ⟨rfl, _, rfl, .tuple #[], by simp [results, Tryz.results154], rfl, rfl, ?_, ?_, ?_⟩
  · exact (((Step.refl (fun k => k = f ∨ k = R + 1) w).setCell (p := ⟨f, 1, none⟩) (.inl rfl) _).setCell (p := ⟨R + 1, 0, none⟩) (.inr rfl) _).alloc _
  · have h9 := (show ((w.setCell ⟨f, 1, none⟩ (.int .i64 (p : Nat))).setCell ⟨R + 1, 0, none⟩ (.int .i64 3)).heap[f]? = (w.setCell ⟨f, 1, none⟩ (.int .i64 (p : Nat))).heap[f]? from Below.heap_setCell _ _ _ _ hne).trans hf1
    refine (Below.heap_alloc _ _ _ (lt_of_block h9)).trans (h9.trans ?_)
    simp
  · have h9 := blk_set hr1 0 (.int .i64 3)
    refine (Below.heap_alloc _ _ _ (lt_of_block h9)).trans (h9.trans ?_)
    simp

/- what Whole comes to, by what its call came to -/
structure WholeP (f p z : Nat) (s : Value) (w : World) (Post : World → Ending → World → Prop) (e : Ending) (w'' : World) : Prop where
  ex : ∃ w1 e1 w', Step (fun _ => False) w w1 ∧ w1.heap.size = w.heap.size + 3 ∧ Post w1 e1 w' ∧
    ((∃ x : Nat, e1 = .returned (.int .i64 (x : Nat)) ∧ e = .returned (.int .i64 (x : Nat)) ∧ w'' = w'.setCell ⟨w.heap.size + 1, 0, none⟩ (.int .i64 (x : Nat))) ∨
     (e1 = lost ∧ e = .returned (.int .i64 3) ∧ Step (fun k => k = f ∨ k = w.heap.size + 1) w' w'' ∧ w''.heap[f]? = some (.cells #[s, .int .i64 (p : Nat), .int .i64 (z : Nat)] 91 (0, 0))))

set_option maxRecDepth 20000 in
set_option maxHeartbeats 1000000 in
theorem whole_bare {z : Nat} (f d p : Nat) (s : Value) (w : World) (Post : World → Ending → World → Prop)
    (hF : w.heap[f]? = some (.cells #[s, .int .i64 (p : Nat), .int .i64 (z : Nat)] 91 (0, 0)))
    (hcall : ∀ w1, Step (fun _ => False) w w1 → w1.heap.size = w.heap.size + 3 → w1.heap[w.heap.size + 1]? = some (.cells #[.int .i64 0] 43 (0, 0)) → Calls Tryz.prog 151 #[.pointer (some ⟨d, 0, none⟩)] w1 fun e w' => Ends e ∧ Post w1 e w')
    (hkeep : ∀ w1 e w', Step (fun _ => False) w w1 → w1.heap.size = w.heap.size + 3 → Post w1 e w' → w'.heap[w.heap.size]? = w1.heap[w.heap.size]? ∧ w'.heap[w.heap.size + 1]? = w1.heap[w.heap.size + 1]? ∧ w'.heap[w.heap.size + 1 + 1]? = w1.heap[w.heap.size + 1 + 1]? ∧ ∃ q : Nat, w'.heap[f]? = some (.cells #[s, .int .i64 (q : Nat), .int .i64 (z : Nat)] 91 (0, 0))) :
    Calls Tryz.prog 125 #[.pointer (some ⟨f, 0, none⟩), .func (.func 151) #[.pointer (some ⟨d, 0, none⟩)] #[]] w
      fun e w'' => WholeP f p z s w Post e w'' := by
  obtain ⟨_, c1, _, _, _⟩ := blk_three hF
  have hflt := lt_of_block hF
  have HF := hide hF
  have HC := hide hcall
  have HK := hide hkeep
  clear hF hcall hkeep
  have hmf : ∀ (fn : Fn) (first cap : Array Value) (w : World), (Instr.makeFunc fn first cap).run Tryz.prog w = .ok (.func fn first cap) w := fun _ _ _ _ => rfl
  go_enter_defers Tryz.func125, Tryz.ntmps125
  go_wp2_with fail
  have hst : Step (fun _ => False) w (((w.alloc (.cells #[.pointer (some ⟨f, 0, none⟩)] 72)).alloc (.cells #[.int .i64 0] 43)).alloc (.cells #[.int .i64 (p : Nat)] 3)) := (((Step.refl _ _).alloc _).alloc _).alloc _
  have hsz : (((w.alloc (.cells #[.pointer (some ⟨f, 0, none⟩)] 72)).alloc (.cells #[.int .i64 0] 43)).alloc (.cells #[.int .i64 (p : Nat)] 3)).heap.size = w.heap.size + 3 := by simp
  have hr : (((w.alloc (.cells #[.pointer (some ⟨f, 0, none⟩)] 72)).alloc (.cells #[.int .i64 0] 43)).alloc (.cells #[.int .i64 (p : Nat)] 3)).heap[w.heap.size + 1]? = some (.cells #[.int .i64 0] 43 (0, 0)) := (Below.heap_alloc _ _ _ (by simp)).trans (heap_alloc2_new _ _ _)
  have hr0 : (((w.alloc (.cells #[.pointer (some ⟨f, 0, none⟩)] 72)).alloc (.cells #[.int .i64 0] 43)).alloc (.cells #[.int .i64 (p : Nat)] 3)).heap[w.heap.size]? = some (.cells #[.pointer (some ⟨f, 0, none⟩)] 72 (0, 0)) := (Below.heap_alloc _ _ _ (by simp; omega)).trans ((Below.heap_alloc _ _ _ (by simp)).trans (heap_alloc_new _ _))
  have hr2 : (((w.alloc (.cells #[.pointer (some ⟨f, 0, none⟩)] 72)).alloc (.cells #[.int .i64 0] 43)).alloc (.cells #[.int .i64 (p : Nat)] 3)).heap[w.heap.size + 1 + 1]? = some (.cells #[.int .i64 (p : Nat)] 3 (0, 0)) := by
    have h9 := heap_alloc_new ((w.alloc (.cells #[.pointer (some ⟨f, 0, none⟩)] 72)).alloc (.cells #[.int .i64 0] 43)) (.cells #[.int .i64 (p : Nat)] 3)
    simpa using h9
  generalize (((w.alloc (.cells #[.pointer (some ⟨f, 0, none⟩)] 72)).alloc (.cells #[.int .i64 0] 43)).alloc (.cells #[.int .i64 (p : Nat)] 3)) = w1 at *
  refine (unhide HC w1 hst hsz hr).mono ?_
  rintro e w2 ⟨⟨x, rfl⟩ | rfl, hpost⟩
  · have hb := (unhide HK w1 _ w2 hst hsz hpost).2.1.trans hr
    have r0 := cell_of_one hb
    have rf := free_of_one hb
    have HP := hide hpost
    clear hb hr hpost hr0 hr2
    go_wp2_with fail
    refine leaves_cons (f := 154) (args := #[.pointer (some ⟨w.heap.size + 1 + 1, 0, none⟩), .pointer (some ⟨w.heap.size, 0, none⟩), .pointer (some ⟨w.heap.size + 1, 0, none⟩)]) (by simp) (by simp [go_sem]) ?_
    refine (whole1_idle _ _ _ _).mono ?_
    rintro e u' w'' ⟨rfl, rfl, rfl⟩
    have hfin : WholeP f p z s w Post (.returned (.int .i64 (x : Nat))) (w2.setCell ⟨w.heap.size + 1, 0, none⟩ (.int .i64 (x : Nat))) := ⟨⟨w1, _, w2, hst, hsz, unhide HP, .inl ⟨x, rfl, rfl, rfl⟩⟩⟩
    refine ⟨.int .i64 (x : Nat), ?_, hfin⟩
    simp [results, Tryz.results125, go_sem, r0]
  · obtain ⟨b0, b1, b2, q, hq⟩ := unhide HK w1 _ w2 hst hsz hpost
    have r0 := cell_of_one (b0.trans hr0)
    have r2 := cell_of_one (b2.trans hr2)
    have h1 := b1.trans hr
    have HP := hide hpost
    clear hr hpost hr0 hr2 b0 b1 b2
    go_wp2_with fail
    refine leaves_cons (f := 154) (args := #[.pointer (some ⟨w.heap.size + 1 + 1, 0, none⟩), .pointer (some ⟨w.heap.size, 0, none⟩), .pointer (some ⟨w.heap.size + 1, 0, none⟩)]) (by simp) (by simp [go_sem]) ?_
    refine (whole1_lost w.heap.size f p q s 0 w2 r0 r2 hq h1 (by omega)).mono ?_
    rintro e u' w'' ⟨rfl, rfl, h3, h4, h5⟩
    have r5 := cell_of_one h5
    have hfin : WholeP f p z s w Post (.returned (.int .i64 3)) w'' := ⟨⟨w1, _, w2, hst, hsz, unhide HP, .inr ⟨rfl, rfl, h3, h4⟩⟩⟩
    refine ⟨.int .i64 3, ?_, hfin⟩
    simp [results, Tryz.results125, go_sem, r5]

set_option maxRecDepth 20000 in
set_option maxHeartbeats 1000000 in
theorem whole_wrap {z : Nat} (f d p : Nat) (s : Value) (w : World) (Post : World → Ending → World → Prop)
    (hF : w.heap[f]? = some (.cells #[s, .int .i64 (p : Nat), .int .i64 (z : Nat)] 91 (0, 0)))
    (hcall : ∀ w1, Step (fun _ => False) w w1 → w1.heap.size = w.heap.size + 3 → w1.heap[w.heap.size + 1]? = some (.cells #[.int .i64 0] 43 (0, 0)) → Calls Tryz.prog 124 #[.pointer (some ⟨d, 0, none⟩)] w1 fun e w' => Ends e ∧ Post w1 e w')
    (hkeep : ∀ w1 e w', Step (fun _ => False) w w1 → w1.heap.size = w.heap.size + 3 → Post w1 e w' → w'.heap[w.heap.size]? = w1.heap[w.heap.size]? ∧ w'.heap[w.heap.size + 1]? = w1.heap[w.heap.size + 1]? ∧ w'.heap[w.heap.size + 1 + 1]? = w1.heap[w.heap.size + 1 + 1]? ∧ ∃ q : Nat, w'.heap[f]? = some (.cells #[s, .int .i64 (q : Nat), .int .i64 (z : Nat)] 91 (0, 0))) :
    Calls Tryz.prog 125 #[.pointer (some ⟨f, 0, none⟩), .func (.func 124) #[.pointer (some ⟨d, 0, none⟩)] #[]] w
      fun e w'' => WholeP f p z s w Post e w'' := by
  obtain ⟨_, c1, _, _, _⟩ := blk_three hF
  have hflt := lt_of_block hF
  have HF := hide hF
  have HC := hide hcall
  have HK := hide hkeep
  clear hF hcall hkeep
  have hmf : ∀ (fn : Fn) (first cap : Array Value) (w : World), (Instr.makeFunc fn first cap).run Tryz.prog w = .ok (.func fn first cap) w := fun _ _ _ _ => rfl
  go_enter_defers Tryz.func125, Tryz.ntmps125
  go_wp2_with fail
  have hst : Step (fun _ => False) w (((w.alloc (.cells #[.pointer (some ⟨f, 0, none⟩)] 72)).alloc (.cells #[.int .i64 0] 43)).alloc (.cells #[.int .i64 (p : Nat)] 3)) := (((Step.refl _ _).alloc _).alloc _).alloc _
  have hsz : (((w.alloc (.cells #[.pointer (some ⟨f, 0, none⟩)] 72)).alloc (.cells #[.int .i64 0] 43)).alloc (.cells #[.int .i64 (p : Nat)] 3)).heap.size = w.heap.size + 3 := by simp
  have hr : (((w.alloc (.cells #[.pointer (some ⟨f, 0, none⟩)] 72)).alloc (.cells #[.int .i64 0] 43)).alloc (.cells #[.int .i64 (p : Nat)] 3)).heap[w.heap.size + 1]? = some (.cells #[.int .i64 0] 43 (0, 0)) := (Below.heap_alloc _ _ _ (by simp)).trans (heap_alloc2_new _ _ _)
  have hr0 : (((w.alloc (.cells #[.pointer (some ⟨f, 0, none⟩)] 72)).alloc (.cells #[.int .i64 0] 43)).alloc (.cells #[.int .i64 (p : Nat)] 3)).heap[w.heap.size]? = some (.cells #[.pointer (some ⟨f, 0, none⟩)] 72 (0, 0)) := (Below.heap_alloc _ _ _ (by simp; omega)).trans ((Below.heap_alloc _ _ _ (by simp)).trans (heap_alloc_new _ _))
  have hr2 : (((w.alloc (.cells #[.pointer (some ⟨f, 0, none⟩)] 72)).alloc (.cells #[.int .i64 0] 43)).alloc (.cells #[.int .i64 (p : Nat)] 3)).heap[w.heap.size + 1 + 1]? = some (.cells #[.int .i64 (p : Nat)] 3 (0, 0)) := by
    have h9 := heap_alloc_new ((w.alloc (.cells #[.pointer (some ⟨f, 0, none⟩)] 72)).alloc (.cells #[.int .i64 0] 43)) (.cells #[.int .i64 (p : Nat)] 3)
    simpa using h9
  generalize (((w.alloc (.cells #[.pointer (some ⟨f, 0, none⟩)] 72)).alloc (.cells #[.int .i64 0] 43)).alloc (.cells #[.int .i64 (p : Nat)] 3)) = w1 at *
  refine (unhide HC w1 hst hsz hr).mono ?_
  rintro e w2 ⟨⟨x, rfl⟩ | rfl, hpost⟩
  · have hb := (unhide HK w1 _ w2 hst hsz hpost).2.1.trans hr
    have r0 := cell_of_one hb
    have rf := free_of_one hb
    have HP := hide hpost
    clear hb hr hpost hr0 hr2
    go_wp2_with fail
    refine leaves_cons (f := 154) (args := #[.pointer (some ⟨w.heap.size + 1 + 1, 0, none⟩), .pointer (some ⟨w.heap.size, 0, none⟩), .pointer (some ⟨w.heap.size + 1, 0, none⟩)]) (by simp) (by simp [go_sem]) ?_
    refine (whole1_idle _ _ _ _).mono ?_
    rintro e u' w'' ⟨rfl, rfl, rfl⟩
    have hfin : WholeP f p z s w Post (.returned (.int .i64 (x : Nat))) (w2.setCell ⟨w.heap.size + 1, 0, none⟩ (.int .i64 (x : Nat))) := ⟨⟨w1, _, w2, hst, hsz, unhide HP, .inl ⟨x, rfl, rfl, rfl⟩⟩⟩
    refine ⟨.int .i64 (x : Nat), ?_, hfin⟩
    simp [results, Tryz.results125, go_sem, r0]
  · obtain ⟨b0, b1, b2, q, hq⟩ := unhide HK w1 _ w2 hst hsz hpost
    have r0 := cell_of_one (b0.trans hr0)
    have r2 := cell_of_one (b2.trans hr2)
    have h1 := b1.trans hr
    have HP := hide hpost
    clear hr hpost hr0 hr2 b0 b1 b2
    go_wp2_with fail
    refine leaves_cons (f := 154) (args := #[.pointer (some ⟨w.heap.size + 1 + 1, 0, none⟩), .pointer (some ⟨w.heap.size, 0, none⟩), .pointer (some ⟨w.heap.size + 1, 0, none⟩)]) (by simp) (by simp [go_sem]) ?_
    refine (whole1_lost w.heap.size f p q s 0 w2 r0 r2 hq h1 (by omega)).mono ?_
    rintro e u' w'' ⟨rfl, rfl, h3, h4, h5⟩
    have r5 := cell_of_one h5
    have hfin : WholeP f p z s w Post (.returned (.int .i64 3)) w'' := ⟨⟨w1, _, w2, hst, hsz, unhide HP, .inr ⟨rfl, rfl, h3, h4⟩⟩⟩
    refine ⟨.int .i64 3, ?_, hfin⟩
    simp [results, Tryz.results125, go_sem, r5]
end Go.Proofs.YtbpahojchgpdnaaGreatDoor
