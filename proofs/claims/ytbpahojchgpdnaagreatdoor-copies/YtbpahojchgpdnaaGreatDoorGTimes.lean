/- Proved here: what readTimes and readLengths do, whatever the bits are. -/
import Derived.Test.YtbpahojchgpdnaaGreatDoorGFeed
import Derived.Test.YtbpahojchgpdnaaGreatDoorFrame
import Derived.RegionDies
namespace Go.Proofs.YtbpahojchgpdnaaGreatDoor
open Go.RowKit Go.Bel Go.Maps

def LP (r : R (Nat × Nat)) (f : Nat) (w : World) (e : Ending) (w' : World) : Prop :=
  match r with
  | .ok lt q => e = .returned (.tuple #[nat lt.1, nat lt.2]) ∧ Fed f w w' q
  | .no _ => False
  | .miss => e = lost ∧ ∃ q, Fed f w w' q

theorem fed_drew {f p : Nat} {w w1 : World} (h : Fed f w.drew w1 p) : Fed f w w1 p := ⟨(Step.refl (· = f) w).drew.trans h.step, fun s x z' t hx => h.feed s x z' t hx⟩

set_option maxRecDepth 20000 in
set_option maxHeartbeats 1000000 in
theorem readTimes_ok (f g off cap z q a l k : Nat) (B : List Nat) (w : World)
    (hF : w.heap[f]? = some (.cells #[.slice (some ⟨g, off, none⟩) B.length cap, .int .i64 (q : Nat), .int .i64 (z : Nat)] 91 (0, 0))) (hS : Src w g off B) (hgf : g ≠ f) (hk : k ≤ 20) (hl : l ≤ 100) (hthere : q + k ≤ 8 * B.length) :
    Calls Tryz.prog 224 #[.agg #[nat a, nat l, nat k], .pointer (some ⟨f, 0, none⟩)] w fun e w' => e = .returned (nat (l + numAt B q k)) ∧ Fed f w w' (q + k) := by
  have hfa := Fed.alloc0 hF (.cells #[nat a, nat l, nat k] 258)
  have hnum := feedNum_ok f g off cap z q k B (w.alloc (.cells #[nat a, nat l, nat k] 258)).drew (hfa.feed _ _ _ _ hF) ((hS.step hfa.step hgf).step ((Step.refl (fun _ => False) _).drew) (fun x => x)) hgf (by omega) hthere
  have hnl := numAt_lt B q k
  have hp : 2 ^ k ≤ 2 ^ 20 := Nat.pow_le_pow_right (by omega) hk
  obtain ⟨m, hm⟩ : ∃ m, m = numAt B q k := ⟨_, rfl⟩
  rw [← hm] at hnum hnl ⊢
  have hsum : IntKind.i64.wrap ((l : Int) + (m : Int)) = ((l + m : Nat) : Int) := by rw [IntKind.wrap_i64]; omega
  have hflt := lt_of_block hF
  have HN := hide hnum
  have HFA := hide hfa
  clear hnum hF hS hm hfa hnl hp
  go_enter Tryz.func224, Tryz.ntmps224
  go_wp2_with fail
  have hb1 : (w.alloc (.cells #[nat a, nat l, nat k] 258)).heap[w.heap.size]? = some (.cells #[nat a, nat l, nat k] 258 (0, 0)) := heap_alloc_new _ _
  generalize w.alloc (.cells #[nat a, nat l, nat k] 258) = w1 at *
  have c1 := (show w1.cell? ⟨w.heap.size, 1, none⟩ = some (nat l) from blk_cell hb1 1 _ rfl)
  have c2 := (show w1.cell? ⟨w.heap.size, 2, none⟩ = some (nat k) from blk_cell hb1 2 _ rfl)
  clear hb1
  have hne : ¬ (w.heap.size = f) := by omega
  go_region_held3 (fun w' => w'.cell? ⟨w.heap.size, 1, none⟩ = some (nat l) ∧ w'.cell? ⟨w.heap.size, 2, none⟩ = some (nat k)) (go_keep)
    (first | (go_at_call 119; refine (unhide HN).mono ?_; rintro e w2 ⟨rfl, hf2⟩; have k1 := hf2.step.cell (p := ⟨w.heap.size, 1, none⟩) c1 hne; have k2 := hf2.step.cell (p := ⟨w.heap.size, 2, none⟩) c2 hne))
  all_goals
    go_wp2_with fail
    go_ret
    exact ⟨rfl, (unhide HFA).trans (fed_drew hf2)⟩

set_option maxRecDepth 20000 in
set_option maxHeartbeats 1000000 in
theorem readTimes_miss (f g off cap z q a l k : Nat) (B : List Nat) (w : World)
    (hF : w.heap[f]? = some (.cells #[.slice (some ⟨g, off, none⟩) B.length cap, .int .i64 (q : Nat), .int .i64 (z : Nat)] 91 (0, 0))) (hS : Src w g off B) (hgf : g ≠ f) (hq : q ≤ 8 * B.length) (hk : k ≤ 20) (hthere : 8 * B.length < q + k) :
    Calls Tryz.prog 224 #[.agg #[nat a, nat l, nat k], .pointer (some ⟨f, 0, none⟩)] w fun e w' => e = lost ∧ ∃ q', Fed f w w' q' := by
  have hfa := Fed.alloc0 hF (.cells #[nat a, nat l, nat k] 258)
  have hnum := feedNum_miss f g off cap z q k B (w.alloc (.cells #[nat a, nat l, nat k] 258)).drew (hfa.feed _ _ _ _ hF) ((hS.step hfa.step hgf).step ((Step.refl (fun _ => False) _).drew) (fun x => x)) hgf (by omega) hq hthere
  have HN := hide hnum
  have HFA := hide hfa
  clear hnum hF hS hfa
  go_enter Tryz.func224, Tryz.ntmps224
  go_wp2_with fail
  have hb1 : (w.alloc (.cells #[nat a, nat l, nat k] 258)).heap[w.heap.size]? = some (.cells #[nat a, nat l, nat k] 258 (0, 0)) := heap_alloc_new _ _
  generalize w.alloc (.cells #[nat a, nat l, nat k] 258) = w1 at *
  have c1 := (show w1.cell? ⟨w.heap.size, 1, none⟩ = some (nat l) from blk_cell hb1 1 _ rfl)
  have c2 := (show w1.cell? ⟨w.heap.size, 2, none⟩ = some (nat k) from blk_cell hb1 2 _ rfl)
  clear hb1
  go_region_dies
  all_goals
    refine (unhide HN).mono ?_
    rintro e w2 ⟨rfl, hf2⟩
    exact ⟨rfl, rfl, _, (unhide HFA).trans (fed_drew hf2)⟩

set_option maxRecDepth 20000 in
set_option maxHeartbeats 1000000 in
theorem readLengths_any (f g off cap z q s RB n : Nat) (row B : List Nat) (w : World)
    (hF : w.heap[f]? = some (.cells #[.slice (some ⟨g, off, none⟩) B.length cap, .int .i64 (q : Nat), .int .i64 (z : Nat)] 91 (0, 0))) (hS : Src w g off B) (hgf : g ≠ f) (hq : q ≤ 8 * B.length)
    (hrow : s = 16 → 0 < row.length ∧ row.length ≤ 400 ∧ w.cell? ⟨RB, row.length - 1, none⟩ = some (nat (row[row.length - 1]?.getD 0))) (hRf : RB ≠ f) (hs19 : s < 19) (hO : OrderAt w) (h4f : 4 ≤ f) :
    Calls Tryz.prog 219 #[.pointer (some ⟨f, 0, none⟩), .int .i64 (s : Nat), .slice (some ⟨RB, 0, none⟩) row.length n] w fun e w' => LP (rLens B q s row) f w e w' := by
  have hm := hS.much
  have HF := hide hF
  obtain ⟨m0, m1, m2⟩ := hO.many
  obtain ⟨n0, n1, n2⟩ := hO.few
  obtain ⟨a0, a1, a2⟩ := hO.again
  clear hO
  by_cases h16 : s < 16
  · have hr : rLens B q s row = .ok (s, 1) q := by unfold rLens; rw [if_pos h16]
    have hne1 : ((s : Int) == 16) = false := beq_eq_false_iff_ne.2 (by omega)
    have hne2 : ((s : Int) == 17) = false := beq_eq_false_iff_ne.2 (by omega)
    have hne3 : ((s : Int) == 18) = false := beq_eq_false_iff_ne.2 (by omega)
    have HR := hide hr
    have HFIN := hide (Fed.refl hF)
    clear hr hrow hF
    go_enter Tryz.func219, Tryz.ntmps219
    go_wp2_with fail
    go_ret2
    rw [unhide HR]
    exact ⟨rfl, unhide HFIN⟩
  · by_cases he : s = 16
    · subst he
      obtain ⟨h0, h4, hc⟩ := hrow rfl
      obtain ⟨x, hx⟩ : ∃ x, x = row[row.length - 1]?.getD 0 := ⟨_, rfl⟩
      have e1 : ((row.length : Int) - 1) = ((row.length - 1 : Nat) : Int) := by omega
      rw [← hx] at hc
      obtain ⟨k, hk⟩ : ∃ k, k = row.length - 1 := ⟨_, rfl⟩
      obtain ⟨l, hl⟩ : ∃ l, l = row.length := ⟨_, rfl⟩
      by_cases hthere : q + 2 ≤ 8 * B.length
      · have hr : rLens B q 16 row = .ok (x, numAt B q 2 + 3) (q + 2) := by unfold rLens; rw [if_neg (by omega), if_pos rfl, if_pos hthere, hx]
        have hnum := readTimes_ok f g off cap z q 16 3 2 B w.drew hF (hS.step ((Step.refl (fun _ => False) w).drew) (fun x => x)) hgf (by omega) (by omega) hthere
        have HN := hide hnum
        have HR := hide hr
        rw [← hk] at e1 hc
        rw [← hl] at e1 h4 ⊢
        have hwr : IntKind.i64.wrap ((l : Int) - 1) = (k : Int) := by rw [IntKind.wrap_i64]; omega
        have hk0 : (0 : Int) ≤ (k : Int) := by omega
        have hkl : (k : Int) < (l : Int) := by omega
        have hf3 : ¬ (3 = f) := by omega
        clear hr hrow hF hx hnum hk hl h0 e1
        go_enter Tryz.func219, Tryz.ntmps219
        go_wp2_with fail
        go_region_held3 (fun w' => w'.cell? ⟨RB, k, none⟩ = some (nat x) ∧ w'.cell? ⟨3, 0, none⟩ = some (.int .i64 16) ∧ w'.cell? ⟨3, 1, none⟩ = some (.int .i64 3) ∧ w'.cell? ⟨3, 2, none⟩ = some (.int .i64 2)) (go_keep)
          (first | (go_at_call 224; refine (unhide HN).mono ?_; rintro e w2 ⟨rfl, hf2⟩; have k1 := hf2.step.cell (p := ⟨RB, k, none⟩) hc hRf; have k2 := hf2.step.cell (p := ⟨3, 0, none⟩) a0 hf3; have k3 := hf2.step.cell (p := ⟨3, 1, none⟩) a1 hf3; have k4 := hf2.step.cell (p := ⟨3, 2, none⟩) a2 hf3))
        all_goals
          go_wp2_with fail
          go_ret2
          rw [unhide HR, Nat.add_comm]
          exact ⟨rfl, fed_drew hf2⟩
      · have hr : rLens B q 16 row = .miss := by unfold rLens; rw [if_neg (by omega), if_pos rfl, if_neg hthere]
        have hnum := readTimes_miss f g off cap z q 16 3 2 B w.drew hF (hS.step ((Step.refl (fun _ => False) w).drew) (fun x => x)) hgf hq (by omega) (by omega)
        have HN := hide hnum
        have HR := hide hr
        rw [← hk] at e1 hc
        rw [← hl] at e1 h4 ⊢
        have hwr : IntKind.i64.wrap ((l : Int) - 1) = (k : Int) := by rw [IntKind.wrap_i64]; omega
        have hk0 : (0 : Int) ≤ (k : Int) := by omega
        have hkl : (k : Int) < (l : Int) := by omega
        clear hr hrow hF hx hnum hk hl h0 e1
        go_enter Tryz.func219, Tryz.ntmps219
        go_wp2_with fail
        go_region_dies
        all_goals
          refine (unhide HN).mono ?_
          rintro e w2 ⟨rfl, q', hf2⟩
          refine ⟨rfl, ?_⟩
          rw [unhide HR]
          exact ⟨rfl, _, fed_drew hf2⟩
    · by_cases h17 : s = 17
      · subst h17
        by_cases hthere : q + 3 ≤ 8 * B.length
        · have hr : rLens B q 17 row = .ok (0, numAt B q 3 + 3) (q + 3) := by unfold rLens; rw [if_neg (by omega), if_neg (by omega), if_pos rfl, if_pos hthere]
          have HR := hide hr
          clear hr hrow hF
          go_enter Tryz.func219, Tryz.ntmps219
          go_wp2_with fail
          refine (readTimes_ok f g off cap z q 17 3 3 B w (unhide HF) hS hgf (by omega) (by omega) hthere).mono ?_
          rintro e w1 ⟨rfl, hf1⟩
          go_wp2_with fail
          go_ret2
          rw [unhide HR, Nat.add_comm]
          exact ⟨rfl, hf1⟩
        · have hr : rLens B q 17 row = .miss := by unfold rLens; rw [if_neg (by omega), if_neg (by omega), if_pos rfl, if_neg hthere]
          have HR := hide hr
          clear hr hrow hF
          go_enter Tryz.func219, Tryz.ntmps219
          go_wp2_with fail
          refine (readTimes_miss f g off cap z q 17 3 3 B w (unhide HF) hS hgf hq (by omega) (by omega)).mono ?_
          rintro e w1 ⟨rfl, q', hf1⟩
          go_wp2_with fail
          rw [unhide HR]
          exact ⟨rfl, rfl, _, hf1⟩
      · have h18 : s = 18 := by omega
        subst h18
        by_cases hthere : q + 7 ≤ 8 * B.length
        · have hr : rLens B q 18 row = .ok (0, numAt B q 7 + 11) (q + 7) := by unfold rLens; rw [if_neg h16, if_neg he, if_neg h17, if_pos hthere]
          have HR := hide hr
          clear hr hrow hF
          go_enter Tryz.func219, Tryz.ntmps219
          go_wp2_with fail
          refine (readTimes_ok f g off cap z q 18 11 7 B w (unhide HF) hS hgf (by omega) (by omega) hthere).mono ?_
          rintro e w1 ⟨rfl, hf1⟩
          go_wp2_with fail
          go_ret2
          rw [unhide HR, Nat.add_comm]
          exact ⟨rfl, hf1⟩
        · have hr : rLens B q 18 row = .miss := by unfold rLens; rw [if_neg h16, if_neg he, if_neg h17, if_neg hthere]
          have HR := hide hr
          clear hr hrow hF
          go_enter Tryz.func219, Tryz.ntmps219
          go_wp2_with fail
          refine (readTimes_miss f g off cap z q 18 11 7 B w (unhide HF) hS hgf hq (by omega) (by omega)).mono ?_
          rintro e w1 ⟨rfl, q', hf1⟩
          go_wp2_with fail
          rw [unhide HR]
          exact ⟨rfl, rfl, _, hf1⟩
end Go.Proofs.YtbpahojchgpdnaaGreatDoor
