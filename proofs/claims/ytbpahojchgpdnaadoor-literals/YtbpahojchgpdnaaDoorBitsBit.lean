/- Proved here: what one call of the writer's bit does. -/
import Derived.Test.YtbpahojchgpdnaaDoorGround
namespace Go.Proofs.YtbpahojchgpdnaaDoor
open Go.RowKit Go.Bel


/- a writer whose row has room for the next bit -/
set_option maxHeartbeats 400000 in
theorem bit_room (b base x : Nat) (v : Value) (bs : List Bool) (B : List Nat) (w : World)
    (h : BitsAt w b base 25 5 v bs B) (hl : bs.length < 70368744177664) (hr : bs.length % 8 ≠ 0) :
    Calls Tryd.prog 11 #[.pointer (some ⟨b, 0, none⟩), .int .i64 (x : Nat)] w
      fun e w' => e = .returned (.tuple #[]) ∧ ∃ v' B', BitsAt w' b base 25 5 v' (bs ++ [decide (x % 2 = 1)]) B' ∧ Wrt b w v w' v' := by
  obtain ⟨h0, h1, hf0, hf1⟩ := blk_two h.row.blk
  have hlen := h.len
  have hrow := h.row
  obtain ⟨g, cap, rfl, hgb, hgbase, hcs, hfr⟩ := hrow.shape (by omega)
  have hc := hcs (bs.length / 8) (by omega)
  have hfg := hfr (bs.length / 8)
  have hi : (bs.length : Int) / 8 < (B.length : Int) := by omega
  have hr' : ((bs.length : Int) % 8 == 0) = false := beq_eq_false_iff_ne.2 (by omega)
  have HH := hide hrow
  have HL := hide hlen
  clear h hcs hfr hrow hlen
  by_cases hx : x % 2 = 1
  · have hx' : ((x : Int) % 2 == 1) = true := beq_iff_eq.2 (by omega)
    go_enter Tryd.func11, Tryd.ntmps11
    go_wp2
    go_region
    go_wp2
    go_end0
    have HL := unhide HL
    refine ⟨rfl, _, B.set (bs.length / 8) (B[bs.length / 8]?.getD 0 ||| 2 ^ (bs.length % 8)), ⟨?_, ?_⟩, ⟨(((Step.refl _ _).setCell (by exact .inr rfl) _).setCell (by exact .inl rfl) _).drew, fun k hk => .inl hk⟩⟩
    · rw [decide_eq_true hx]; exact (unhide HH).put1 (by omega) hgb
    · simp; omega
  · have hx' : ((x : Int) % 2 == 1) = false := beq_eq_false_iff_ne.2 (by omega)
    go_enter Tryd.func11, Tryd.ntmps11
    go_wp2
    go_end0
    have HL := unhide HL
    refine ⟨rfl, _, B, ⟨?_, ?_⟩, ⟨(Step.refl _ _).setCell (by exact .inl rfl) _, fun k hk => .inl hk⟩⟩
    · rw [decide_eq_false hx]; exact (unhide HH).put0
    · simp; omega

/- a writer whose row is full -/
set_option maxHeartbeats 400000 in
theorem bit_full (b base x : Nat) (v : Value) (bs : List Bool) (B : List Nat) (w : World)
    (h : BitsAt w b base 25 5 v bs B) (hl : bs.length < 70368744177664) (hbase : base ≤ w.heap.size) (hr : bs.length % 8 = 0) :
    Calls Tryd.prog 11 #[.pointer (some ⟨b, 0, none⟩), .int .i64 (x : Nat)] w
      fun e w' => e = .returned (.tuple #[]) ∧ ∃ v' B', BitsAt w' b base 25 5 v' (bs ++ [decide (x % 2 = 1)]) B' ∧ Wrt b w v w' v' := by
  obtain ⟨h0, h1, hf0, hf1⟩ := blk_two h.row.blk
  have hlen := h.len
  have hrow := h.row
  have hblt := lt_of_block h.row.blk
  have hr' : ((bs.length : Int) % 8 == 0) = true := beq_iff_eq.2 (by omega)
  obtain ⟨i0, hi, hz0, hz1, hz2⟩ := info_parts Tryd.info5
  obtain ⟨va, vn, vc, hvs⟩ : ∃ a n c, v = .slice a n c := by
    obtain ⟨_, ⟨hv, _⟩ | ⟨g, cap, _, hv, _⟩⟩ := hrow.own
    · exact ⟨_, _, _, hv⟩
    · exact ⟨_, _, _, hv⟩
  subst hvs
  have hown := hrow.own
  have HH := hide hrow
  have HL := hide hlen
  have HW := hide hown
  clear h hrow hlen hown
  by_cases hx : x % 2 = 1
  · have hx' : ((x : Int) % 2 == 1) = true := beq_iff_eq.2 (by omega)
    go_enter Tryd.func11, Tryd.ntmps11
    go_wp2_with (at_builtin; refine wpList_append_row _ rfl _ _ 23 rfl base 5 i0 (.int .u8 0) 1 1 Tryd.underlying23 hi hz0 hz1 hz2 rfl (by decide) _ B.length (u8s B) rfl ((unhide HW).alloc _) ⟨w.heap.size, 0, none⟩ 1 1 [.int .u8 0] rfl rfl ?c1o ?c2o (by decide) ?c3o ?c4o ?c5o ?_)
    case c1o =>
      intro j u hj
      match j, hj with
      | 0, hj => simp at hj; subst hj; simp [Addr.add]
    case c2o => intro u hu; simp at hu; subst hu; rfl
    case c3o => unfold maxLen; have := unhide HL; omega
    case c4o => have := unhide HL; omega
    case c5o => simp; omega
    intro g cap w1 hown' hgr hg
    obtain ⟨hb1, hrow1, hwrt⟩ := (unhide HH).grow _ hown' hgr (by simpa using hg)
    obtain ⟨k0, k1, kf0, kf1⟩ := blk_two hb1
    clear hown' hgr hg h0 h1 hf0 hf1
    have hlen := unhide HL
    have el : (B ++ [0]).length = B.length + 1 := by simp
    obtain ⟨g', cap', hv', hgb, _, hcs, hfr⟩ := hrow1.shape (by simp)
    simp only [Value.slice.injEq, Option.some.injEq, Addr.mk.injEq, and_true] at hv'
    obtain ⟨rfl, _, rfl⟩ := hv'
    have hc := hcs (bs.length / 8) (by rw [el]; omega)
    have hfg := hfr (bs.length / 8)
    obtain ⟨m0, m1, mf0, mf1⟩ := blk_two hrow1.blk
    rw [el] at m0
    obtain ⟨c, hcc⟩ : ∃ c, c = (B ++ [0])[bs.length / 8]?.getD 0 := ⟨_, rfl⟩
    rw [← hcc] at hc
    have HC := hide hcc
    have H1 := hide hrow1
    have H2 := hide hwrt
    clear hcs hfr hrow1 hwrt hb1 el hlen hcc
    have hi : (bs.length : Int) / 8 < ((B.length + 1 : Nat) : Int) := by have := unhide HL; omega
    go_wp2
    generalize hW : w1.setCell ⟨b, 0, none⟩ (.slice (some ⟨g, 0, none⟩) (B.length + 1) cap) = W at *
    clear hW k0 k1 kf0 kf1
    go_region
    go_wp2
    go_end0
    have H1' := unhide H1
    have hlen := unhide HL
    refine ⟨rfl, .slice (some ⟨g, 0, none⟩) (B ++ [0]).length cap, (B ++ [0]).set (bs.length / 8) ((B ++ [0])[bs.length / 8]?.getD 0 ||| 2 ^ (bs.length % 8)), ⟨?_, ?_⟩, ?_⟩
    · rw [decide_eq_true hx, unhide HC]
      have h9 := H1'.put1 (by simp; omega) hgb
      rw [show ((2 : Int) ^ (bs.length % 8) % 256) = 1 by rw [hr]; rfl] at h9
      exact h9
    · simp; omega
    · exact (unhide H2).trans ⟨(((Step.refl _ _).setCell (by exact .inr rfl) _).setCell (by exact .inl rfl) _).drew, fun k hk => .inl hk⟩
  · have hx' : ((x : Int) % 2 == 1) = false := beq_eq_false_iff_ne.2 (by omega)
    go_enter Tryd.func11, Tryd.ntmps11
    go_wp2_with (at_builtin; refine wpList_append_row _ rfl _ _ 23 rfl base 5 i0 (.int .u8 0) 1 1 Tryd.underlying23 hi hz0 hz1 hz2 rfl (by decide) _ B.length (u8s B) rfl ((unhide HW).alloc _) ⟨w.heap.size, 0, none⟩ 1 1 [.int .u8 0] rfl rfl ?c1e ?c2e (by decide) ?c3e ?c4e ?c5e ?_)
    case c1e =>
      intro j u hj
      match j, hj with
      | 0, hj => simp at hj; subst hj; simp [Addr.add]
    case c2e => intro u hu; simp at hu; subst hu; rfl
    case c3e => unfold maxLen; have := unhide HL; omega
    case c4e => have := unhide HL; omega
    case c5e => simp; omega
    intro g cap w1 hown' hgr hg
    obtain ⟨hb1, hrow1, hwrt⟩ := (unhide HH).grow _ hown' hgr (by simpa using hg)
    obtain ⟨k0, k1, kf0, kf1⟩ := blk_two hb1
    clear hown' hgr hg h0 h1 hf0 hf1
    have hlen := unhide HL
    have el : (B ++ [0]).length = B.length + 1 := by simp
    obtain ⟨m0, m1, mf0, mf1⟩ := blk_two hrow1.blk
    rw [el] at m0
    have H1 := hide hrow1
    have H2 := hide hwrt
    clear hrow1 hwrt hb1 el hlen
    go_wp2
    go_end0
    have H1' := unhide H1
    have hlen := unhide HL
    refine ⟨rfl, .slice (some ⟨g, 0, none⟩) (B ++ [0]).length cap, B ++ [0], ⟨?_, ?_⟩, ?_⟩
    · rw [decide_eq_false hx]; exact H1'.put0
    · simp; omega
    · exact (unhide H2).trans ⟨(Step.refl _ _).setCell (by exact .inl rfl) _, fun k hk => .inl hk⟩

theorem bit_any (b base x : Nat) (v : Value) (bs : List Bool) (B : List Nat) (w : World)
    (h : BitsAt w b base 25 5 v bs B) (hl : bs.length < 70368744177664) (hbase : base ≤ w.heap.size) :
    Calls Tryd.prog 11 #[.pointer (some ⟨b, 0, none⟩), .int .i64 (x : Nat)] w
      fun e w' => e = .returned (.tuple #[]) ∧ ∃ v' B', BitsAt w' b base 25 5 v' (bs ++ [decide (x % 2 = 1)]) B' ∧ Wrt b w v w' v' := by
  by_cases hr : bs.length % 8 = 0
  · exact bit_full b base x v bs B w h hl hbase hr
  · exact bit_room b base x v bs B w h hl hr
end Go.Proofs.YtbpahojchgpdnaaDoor
