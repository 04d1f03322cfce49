/- Proved here: what one call of the writer's bit does. Proved here: what the writer's number and code do. Proved here: what the writer's fixed, begin, literals and stored do. -/
import Derived.Test.YtbpahojchgpdnaaGreatDoorGround
namespace Go.Proofs.YtbpahojchgpdnaaGreatDoor
open Go.RowKit Go.Bel


/- a writer whose row has room for the next bit -/
set_option maxHeartbeats 400000 in
theorem bit_room (b base x : Nat) (v : Value) (bs : List Bool) (B : List Nat) (w : World)
    (h : BitsAt w b base 33 5 v bs B) (hl : bs.length < 70368744177664) (hr : bs.length % 8 ≠ 0) :
    Calls Tryz.prog 34 #[.pointer (some ⟨b, 0, none⟩), .int .i64 (x : Nat)] w
      fun e w' => e = .returned (.tuple #[]) ∧ ∃ v' B', BitsAt w' b base 33 5 v' (bs ++ [decide (x % 2 = 1)]) B' ∧ Wrt b w v w' v' := by
  obtain ⟨h0, h1, hf0, hf1⟩ := blk_two h.row.blk
  have hlen := h.len
  have hrow := h.row
  obtain ⟨g, cap, rfl, hgb, hgbase, hcs, hfr⟩ := hrow.shape (by omega)
  have hc := hcs (bs.length / 8) (by omega)
  have hfg := hfr (bs.length / 8)
  have hi : (bs.length : Int) / 8 < (B.length : Int) := by omega
  have hr' : ((bs.length : Int) % 8 == 0) = false := beq_eq_false_iff_ne.2 (by omega)
  have HH := hide hrow
  have HL := hide hlen
  clear h hcs hfr hrow hlen
  by_cases hx : x % 2 = 1
  · have hx' : ((x : Int) % 2 == 1) = true := beq_iff_eq.2 (by omega)
    go_enter Tryz.func34, Tryz.ntmps34
    go_wp2
    go_region
    go_wp2
    go_end0
    have HL := unhide HL
    refine ⟨rfl, _, B.set (bs.length / 8) (B[bs.length / 8]?.getD 0 ||| 2 ^ (bs.length % 8)), ⟨?_, ?_⟩, ⟨(((Step.refl _ _).setCell (by exact .inr rfl) _).setCell (by exact .inl rfl) _).drew, fun k hk => .inl hk⟩⟩
    · rw [decide_eq_true hx]; exact (unhide HH).put1 (by omega) hgb
    · simp; omega
  · have hx' : ((x : Int) % 2 == 1) = false := beq_eq_false_iff_ne.2 (by omega)
    go_enter Tryz.func34, Tryz.ntmps34
    go_wp2
    go_end0
    have HL := unhide HL
    refine ⟨rfl, _, B, ⟨?_, ?_⟩, ⟨(Step.refl _ _).setCell (by exact .inl rfl) _, fun k hk => .inl hk⟩⟩
    · rw [decide_eq_false hx]; exact (unhide HH).put0
    · simp; omega

/- a writer whose row is full -/
set_option maxHeartbeats 400000 in
theorem bit_full (b base x : Nat) (v : Value) (bs : List Bool) (B : List Nat) (w : World)
    (h : BitsAt w b base 33 5 v bs B) (hl : bs.length < 70368744177664) (hbase : base ≤ w.heap.size) (hr : bs.length % 8 = 0) :
    Calls Tryz.prog 34 #[.pointer (some ⟨b, 0, none⟩), .int .i64 (x : Nat)] w
      fun e w' => e = .returned (.tuple #[]) ∧ ∃ v' B', BitsAt w' b base 33 5 v' (bs ++ [decide (x % 2 = 1)]) B' ∧ Wrt b w v w' v' := by
  obtain ⟨h0, h1, hf0, hf1⟩ := blk_two h.row.blk
  have hlen := h.len
  have hrow := h.row
  have hblt := lt_of_block h.row.blk
  have hr' : ((bs.length : Int) % 8 == 0) = true := beq_iff_eq.2 (by omega)
  obtain ⟨i0, hi, hz0, hz1, hz2⟩ := info_parts Tryz.info5
  obtain ⟨va, vn, vc, hvs⟩ : ∃ a n c, v = .slice a n c := by
    obtain ⟨_, ⟨hv, _⟩ | ⟨g, cap, _, hv, _⟩⟩ := hrow.own
    · exact ⟨_, _, _, hv⟩
    · exact ⟨_, _, _, hv⟩
  subst hvs
  have hown := hrow.own
  have HH := hide hrow
  have HL := hide hlen
  have HW := hide hown
  clear h hrow hlen hown
  by_cases hx : x % 2 = 1
  · have hx' : ((x : Int) % 2 == 1) = true := beq_iff_eq.2 (by omega)
    go_enter Tryz.func34, Tryz.ntmps34
    go_wp2_with (at_builtin; refine wpList_append_row _ rfl _ _ 31 rfl base 5 i0 (.int .u8 0) 1 1 Tryz.underlying31 hi hz0 hz1 hz2 rfl (by decide) _ B.length (u8s B) rfl ((unhide HW).alloc _) ⟨w.heap.size, 0, none⟩ 1 1 [.int .u8 0] rfl rfl ?c1o ?c2o (by decide) ?c3o ?c4o ?c5o ?_)
    case c1o =>
      intro j u hj
      match j, hj with
      | 0, hj => simp at hj; subst hj; simp [Addr.add]
    case c2o => intro u hu; simp at hu; subst hu; rfl
    case c3o => unfold maxLen; have := unhide HL; omega
    case c4o => have := unhide HL; omega
    case c5o => simp; omega
    intro g cap w1 hown' hgr hg
    obtain ⟨hb1, hrow1, hwrt⟩ := (unhide HH).grow _ hown' hgr (by simpa using hg)
    obtain ⟨k0, k1, kf0, kf1⟩ := blk_two hb1
    clear hown' hgr hg h0 h1 hf0 hf1
    have hlen := unhide HL
    have el : (B ++ [0]).length = B.length + 1 := by simp
    obtain ⟨g', cap', hv', hgb, _, hcs, hfr⟩ := hrow1.shape (by simp)
    simp only [Value.slice.injEq, Option.some.injEq, Addr.mk.injEq, and_true] at hv'
    obtain ⟨rfl, _, rfl⟩ := hv'
    have hc := hcs (bs.length / 8) (by rw [el]; omega)
    have hfg := hfr (bs.length / 8)
    obtain ⟨m0, m1, mf0, mf1⟩ := blk_two hrow1.blk
    rw [el] at m0
    obtain ⟨c, hcc⟩ : ∃ c, c = (B ++ [0])[bs.length / 8]?.getD 0 := ⟨_, rfl⟩
    rw [← hcc] at hc
    have HC := hide hcc
    have H1 := hide hrow1
    have H2 := hide hwrt
    clear hcs hfr hrow1 hwrt hb1 el hlen hcc
    have hi : (bs.length : Int) / 8 < ((B.length + 1 : Nat) : Int) := by have := unhide HL; omega
    go_wp2
    generalize hW : w1.setCell ⟨b, 0, none⟩ (.slice (some ⟨g, 0, none⟩) (B.length + 1) cap) = W at *
    clear hW k0 k1 kf0 kf1
    go_region
    go_wp2
    go_end0
    have H1' := unhide H1
    have hlen := unhide HL
    refine ⟨rfl, .slice (some ⟨g, 0, none⟩) (B ++ [0]).length cap, (B ++ [0]).set (bs.length / 8) ((B ++ [0])[bs.length / 8]?.getD 0 ||| 2 ^ (bs.length % 8)), ⟨?_, ?_⟩, ?_⟩
    · rw [decide_eq_true hx, unhide HC]
      have h9 := H1'.put1 (by simp; omega) hgb
      rw [show ((2 : Int) ^ (bs.length % 8) % 256) = 1 by rw [hr]; rfl] at h9
      exact h9
    · simp; omega
    · exact (unhide H2).trans ⟨(((Step.refl _ _).setCell (by exact .inr rfl) _).setCell (by exact .inl rfl) _).drew, fun k hk => .inl hk⟩
  · have hx' : ((x : Int) % 2 == 1) = false := beq_eq_false_iff_ne.2 (by omega)
    go_enter Tryz.func34, Tryz.ntmps34
    go_wp2_with (at_builtin; refine wpList_append_row _ rfl _ _ 31 rfl base 5 i0 (.int .u8 0) 1 1 Tryz.underlying31 hi hz0 hz1 hz2 rfl (by decide) _ B.length (u8s B) rfl ((unhide HW).alloc _) ⟨w.heap.size, 0, none⟩ 1 1 [.int .u8 0] rfl rfl ?c1e ?c2e (by decide) ?c3e ?c4e ?c5e ?_)
    case c1e =>
      intro j u hj
      match j, hj with
      | 0, hj => simp at hj; subst hj; simp [Addr.add]
    case c2e => intro u hu; simp at hu; subst hu; rfl
    case c3e => unfold maxLen; have := unhide HL; omega
    case c4e => have := unhide HL; omega
    case c5e => simp; omega
    intro g cap w1 hown' hgr hg
    obtain ⟨hb1, hrow1, hwrt⟩ := (unhide HH).grow _ hown' hgr (by simpa using hg)
    obtain ⟨k0, k1, kf0, kf1⟩ := blk_two hb1
    clear hown' hgr hg h0 h1 hf0 hf1
    have hlen := unhide HL
    have el : (B ++ [0]).length = B.length + 1 := by simp
    obtain ⟨m0, m1, mf0, mf1⟩ := blk_two hrow1.blk
    rw [el] at m0
    have H1 := hide hrow1
    have H2 := hide hwrt
    clear hrow1 hwrt hb1 el hlen
    go_wp2
    go_end0
    have H1' := unhide H1
    have hlen := unhide HL
    refine ⟨rfl, .slice (some ⟨g, 0, none⟩) (B ++ [0]).length cap, B ++ [0], ⟨?_, ?_⟩, ?_⟩
    · rw [decide_eq_false hx]; exact H1'.put0
    · simp; omega
    · exact (unhide H2).trans ⟨(Step.refl _ _).setCell (by exact .inl rfl) _, fun k hk => .inl hk⟩

theorem bit_any (b base x : Nat) (v : Value) (bs : List Bool) (B : List Nat) (w : World)
    (h : BitsAt w b base 33 5 v bs B) (hl : bs.length < 70368744177664) (hbase : base ≤ w.heap.size) :
    Calls Tryz.prog 34 #[.pointer (some ⟨b, 0, none⟩), .int .i64 (x : Nat)] w
      fun e w' => e = .returned (.tuple #[]) ∧ ∃ v' B', BitsAt w' b base 33 5 v' (bs ++ [decide (x % 2 = 1)]) B' ∧ Wrt b w v w' v' := by
  by_cases hr : bs.length % 8 = 0
  · exact bit_full b base x v bs B w h hl hbase hr
  · exact bit_room b base x v bs B w h hl hr
end Go.Proofs.YtbpahojchgpdnaaGreatDoor

namespace Go.Proofs.YtbpahojchgpdnaaGreatDoor
open Go.RowKit Go.Bel

/- a call that writes the bits 'add' at the writer of block b -/
def Adds (b base : Nat) (w : World) (v : Value) (bs add : List Bool) (e : Ending) (w' : World) : Prop :=
  e = .returned (.tuple #[]) ∧ ∃ v', Bw w' b base 33 5 v' (bs ++ add) ∧ Wrt b w v w' v'

abbrev Pen (w : World) (b base : Nat) (v : Value) (bs : List Bool) : Prop := Bw w b base 33 5 v bs ∧ base ≤ w.heap.size

theorem bit_adds (b base x : Nat) (v : Value) (bs : List Bool) (w : World) (h : Pen w b base v bs) (hl : bs.length < 70368744177664) :
    Calls Tryz.prog 34 #[.pointer (some ⟨b, 0, none⟩), .int .i64 (x : Nat)] w (Adds b base w v bs [decide (x % 2 = 1)]) := by
  obtain ⟨⟨B, hB⟩, hbase⟩ := h
  refine (bit_any b base x v bs B w hB hl hbase).mono ?_
  rintro e w' ⟨rfl, v', B', h1, h2⟩
  exact ⟨rfl, v', ⟨B', h1⟩, h2⟩

theorem pen_of {b base : Nat} {w w' : World} {v v' : Value} {bs bs' : List Bool} (h : Pen w b base v bs) (h1 : Bw w' b base 33 5 v' bs') (h2 : Wrt b w v w' v') : Pen w' b base v' bs' :=
  ⟨h1, Nat.le_trans h.2 h2.step.size⟩

set_option maxHeartbeats 400000 in
theorem number_adds (b base x n : Nat) (v : Value) (bs : List Bool) (w : World) (h : Pen w b base v bs) (hl : bs.length + n < 70368744177664) (_hx : x < 4611686018427387904) (hn : n ≤ 60) :
    Calls Tryz.prog 21 #[.pointer (some ⟨b, 0, none⟩), .int .i64 (x : Nat), .int .i64 (n : Nat)] w (Adds b base w v bs (numBits x n)) := by
  go_enter Tryz.func21, Tryz.ntmps21
  go_wp2
  go_loopw [6] (fun i wr => ∃ k : Nat, k ≤ n ∧ i = .int .i64 (k : Nat) ∧ ∃ v', Bw wr b base 33 5 v' (bs ++ numBits x k) ∧ Wrt b w v wr v') (fun i _ => n - (intOf i).toNat)
  case atStart => exact ⟨0, Nat.zero_le _, rfl, v, by simpa [numBits] using h.1, Wrt.refl _ _ _⟩
  case round =>
    obtain ⟨k, hk, rfl, v', hb, hw⟩ := hrel
    by_cases hlt : k < n
    · go_wp2_with fail
      rw [show ((x : Int) / 2 ^ k) = ((x / 2 ^ k : Nat) : Int) by simp]
      refine (bit_adds b base (x / 2 ^ k) v' (bs ++ numBits x k) wr (pen_of h hb hw) (by simp [numBits_length]; omega)).mono ?_
      rintro e w1 ⟨rfl, v1, hb1, hw1⟩
      go_wp2
      go_roundw
      case rel => exact ⟨k + 1, by omega, by go_num, v1, by rw [numBits_succ, ← List.append_assoc]; exact hb1, hw.trans hw1⟩
      case measure => simp [intOf]; omega
    · go_wp2
      go_end0
      have : k = n := by omega
      subst this
      exact ⟨rfl, v', hb, hw⟩

set_option maxHeartbeats 400000 in
theorem code_adds (b base x n : Nat) (v : Value) (bs : List Bool) (w : World) (h : Pen w b base v bs) (hl : bs.length + n < 70368744177664) (_hx : x < 4611686018427387904) (hn : n ≤ 60) :
    Calls Tryz.prog 23 #[.pointer (some ⟨b, 0, none⟩), .int .i64 (x : Nat), .int .i64 (n : Nat)] w (Adds b base w v bs (codeBits x n)) := by
  go_enter Tryz.func23, Tryz.ntmps23
  go_wp2
  go_loopw [6] (fun i wr => ∃ k : Nat, k ≤ n ∧ i = .int .i64 ((n : Int) - 1 - k) ∧ ∃ v', Bw wr b base 33 5 v' (bs ++ codeTo x n k) ∧ Wrt b w v wr v') (fun i _ => (intOf i + 1).toNat)
  case atStart => exact ⟨0, Nat.zero_le _, by go_num, v, by simpa [codeTo] using h.1, Wrt.refl _ _ _⟩
  case round =>
    obtain ⟨k, hk, rfl, v', hb, hw⟩ := hrel
    by_cases hlt : k < n
    · go_wp2_with fail
      rw [show ((x : Int) / 2 ^ (n - 1 - k)) = ((x / 2 ^ (n - 1 - k) : Nat) : Int) by simp]
      refine (bit_adds b base (x / 2 ^ (n - 1 - k)) v' (bs ++ codeTo x n k) wr (pen_of h hb hw) (by simp [codeTo_length]; omega)).mono ?_
      rintro e w1 ⟨rfl, v1, hb1, hw1⟩
      go_wp2
      go_roundw
      case rel => exact ⟨k + 1, by omega, by go_num, v1, by rw [codeTo_succ, ← List.append_assoc]; exact hb1, hw.trans hw1⟩
      case measure => simp [intOf]; omega
    · go_wp2
      go_end0
      have : k = n := by omega
      subst this
      exact ⟨rfl, v', hb, hw⟩
end Go.Proofs.YtbpahojchgpdnaaGreatDoor

namespace Go.Proofs.YtbpahojchgpdnaaGreatDoor
open Go.RowKit Go.Bel

set_option maxRecDepth 20000 in
set_option maxHeartbeats 400000 in
theorem fixed_adds (b base s : Nat) (v : Value) (bs : List Bool) (w : World) (h : Pen w b base v bs) (hl : bs.length + 9 < 70368744177664) (hs : s < 288) :
    Calls Tryz.prog 18 #[.pointer (some ⟨b, 0, none⟩), .int .i64 (s : Nat)] w (Adds b base w v bs (fixedBits s)) := by
  by_cases h1 : s < 144
  · go_enter Tryz.func18, Tryz.ntmps18
    go_wp2_with fail
    rw [show ((48 : Int) + (s : Int)) = ((48 + s : Nat) : Int) by omega]
    refine (code_adds b base (48 + s) 8 v bs w h (by omega) (by omega) (by omega)).mono ?_
    rintro e w1 ⟨rfl, v1, hb1, hw1⟩
    go_wp2
    go_end0
    exact ⟨rfl, v1, by rw [fixedBits, if_pos h1]; exact hb1, hw1⟩
  by_cases h2 : s < 256
  · go_enter Tryz.func18, Tryz.ntmps18
    go_wp2_with fail
    rw [show ((400 : Int) + (s : Int) - 144) = ((400 + s - 144 : Nat) : Int) by omega]
    refine (code_adds b base (400 + s - 144) 9 v bs w h (by omega) (by omega) (by omega)).mono ?_
    rintro e w1 ⟨rfl, v1, hb1, hw1⟩
    go_wp2
    go_end0
    exact ⟨rfl, v1, by rw [fixedBits, if_neg h1, if_pos h2]; exact hb1, hw1⟩
  by_cases h3 : s < 280
  · go_enter Tryz.func18, Tryz.ntmps18
    go_wp2_with fail
    rw [show ((s : Int) - 256) = ((s - 256 : Nat) : Int) by omega]
    refine (code_adds b base (s - 256) 7 v bs w h (by omega) (by omega) (by omega)).mono ?_
    rintro e w1 ⟨rfl, v1, hb1, hw1⟩
    go_wp2
    go_end0
    exact ⟨rfl, v1, by rw [fixedBits, if_neg h1, if_neg h2, if_pos h3]; exact hb1, hw1⟩
  · go_enter Tryz.func18, Tryz.ntmps18
    go_wp2_with fail
    rw [show ((192 : Int) + (s : Int) - 280) = ((192 + s - 280 : Nat) : Int) by omega]
    refine (code_adds b base (192 + s - 280) 8 v bs w h (by omega) (by omega) (by omega)).mono ?_
    rintro e w1 ⟨rfl, v1, hb1, hw1⟩
    go_wp2
    go_end0
    exact ⟨rfl, v1, by rw [fixedBits, if_neg h1, if_neg h2, if_neg h3]; exact hb1, hw1⟩

set_option maxHeartbeats 400000 in
theorem begin_adds (b base kind : Nat) (last : Bool) (v : Value) (bs : List Bool) (w : World) (h : Pen w b base v bs) (hl : bs.length + 3 < 70368744177664) (hk : kind < 4) :
    Calls Tryz.prog 17 #[.pointer (some ⟨b, 0, none⟩), .bool last, .int .i64 (kind : Nat)] w (Adds b base w v bs (beginBits last kind)) := by
  cases last with
  | true =>
    go_enter Tryz.func17, Tryz.ntmps17
    go_wp2_with fail
    refine (bit_adds b base 1 v bs w h (by omega)).mono ?_
    rintro e w1 ⟨rfl, v1, hb1, hw1⟩
    go_wp2_with fail
    refine (number_adds b base kind 2 v1 _ w1 (pen_of h hb1 hw1) (by simp; omega) (by omega) (by omega)).mono ?_
    rintro e w2 ⟨rfl, v2, hb2, hw2⟩
    go_wp2
    go_end0
    exact ⟨rfl, v2, by simpa [beginBits] using hb2, hw1.trans hw2⟩
  | false =>
    go_enter Tryz.func17, Tryz.ntmps17
    go_wp2_with fail
    refine (bit_adds b base 0 v bs w h (by omega)).mono ?_
    rintro e w1 ⟨rfl, v1, hb1, hw1⟩
    go_wp2_with fail
    refine (number_adds b base kind 2 v1 _ w1 (pen_of h hb1 hw1) (by simp; omega) (by omega) (by omega)).mono ?_
    rintro e w2 ⟨rfl, v2, hb2, hw2⟩
    go_wp2
    go_end0
    exact ⟨rfl, v2, by simpa [beginBits] using hb2, hw1.trans hw2⟩
end Go.Proofs.YtbpahojchgpdnaaGreatDoor
