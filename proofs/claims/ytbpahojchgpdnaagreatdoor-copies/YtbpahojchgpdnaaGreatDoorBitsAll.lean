/- Proved here: a law on append of one thing to a row of the call's own that also says what becomes of the row that it was appended to; nothing of the program. Proved here: a law on append of one thing to a row of the call's own, with room for rows that pass 2^47 bytes; nothing of the program. Proved here: what one call of the writer's bit does. Proved here: what the writer's number and code do. Proved here: what the writer's fixed, begin, literals and stored do. -/
import Derived.Test.YtbpahojchgpdnaaGreatDoorGround
namespace Go.Bel
open Go Go.RowKit

/- a row that is full to its end grows by a quarter, or doubles where it is small -/
theorem fits_one {n bytes : Nat} (hb : bytes ≤ 8) (hn : n * bytes ≤ 220000000000000) : Builtin.nextslicecap (n + 1) n * bytes ≤ 281474976710656 := by
  have h : Builtin.nextslicecap (n + 1) n ≤ n + n / 4 + 512 := by
    unfold Builtin.nextslicecap
    split
    · omega
    · split
      · omega
      · rw [growBy_four, if_neg (by omega), if_pos (by omega)]
        omega
  have h2 : Builtin.nextslicecap (n + 1) n * bytes ≤ (n + n / 4 + 512) * bytes := Nat.mul_le_mul_right _ h
  have h3 : (n / 4) * bytes * 4 ≤ n * bytes := by
    rw [Nat.mul_right_comm]
    exact Nat.mul_le_mul_right _ (by omega)
  rw [Nat.add_mul, Nat.add_mul] at h2
  omega

/- the row lies where it lay, or in a block of its own, and then the old one is as it was -/
theorem wpList_append_row2 {P : Program} (w : World) {ops : Array Oper} {rest : List Oper} {o : Oper} {a : Act} {Q : Exit → Act → World → Prop}
    (hg : o.guard = none) (s x : Operand) (t : TypeId) (hop : o.op = Op.call { callee := Callee.builtin Builtin.append, args := #[s, x], argTypes := #[t, t] })
    (base : Nat) (e : TypeId) (i : TypeInfo) (z : Value) (bytes : Nat) (h1 : P.underlying t = some (.slice e)) (h2 : P.info? e = some i) (h3 : i.zero = some z) (h4 : i.size = 1) (h5 : i.bytes = bytes) (h6 : z.cells.size = 1)
    (v : Value) (n : Nat) (xs : List Value) (hs : a.eval s = v) (hown : w.ownsRow base e 1 v n xs)
    (ad : Addr) (c : Nat) (u : Value) (hx : a.eval x = .slice (some ad) 1 c) (hc : w.cell? ad = some u) (h1c : u.oneCell' = true)
    (hb : bytes ≤ 8) (b2 : n * bytes ≤ 220000000000000) (hb0 : 0 < bytes) (hbase : base ≤ w.heap.size)
    (hK : ∀ g cap w', w'.ownsRow base e 1 (.slice (some ⟨g, 0, none⟩) (n + 1) cap) (n + 1) (xs ++ [u]) → ((v.ownBlock = some g ∧ w.grownBy w' (some g)) ∨ (w.heap.size ≤ g ∧ w.grownBy w' none)) → wpList P ops Q rest (a.put o.dst (.slice (some ⟨g, 0, none⟩) (n + 1) cap)) w') :
    wpList P ops Q (o :: rest) a w := by
  have hn8 : n ≤ n * bytes := Nat.le_mul_of_pos_right n hb0
  have hmax : n + 1 ≤ maxLen := by unfold maxLen; omega
  have hcs : ∀ j y, [u][j]? = some y → w.cell? (ad.add j) = some y := by
    intro j y hj
    match j, hj with
    | 0, hj => simp at hj; subst hj; simpa [Addr.add] using hc
  have hone : ∀ y ∈ [u], y.oneCell' = true := by intro y hy; simp at hy; subst hy; exact h1c
  have hown' := hown
  obtain ⟨hl, ⟨hv, hn0⟩ | ⟨g, cap, cur, hv, hgb, hh, hnc, hcm, hsz, htk⟩⟩ := hown
  · subst hn0
    refine wpList_append_grows w hg s x t hop e i z 1 bytes h1 h2 h3 h4 h5 h6 (by decide) none 0 0 xs (hs.trans hv) (fun _ => ⟨rfl, rfl⟩) hl (fun b hb => by cases hb) ad 1 c [u] hx rfl hcs hone (by omega) hmax (by omega) ?_
    intro v' w' ho hgr
    obtain ⟨g, cap', hv'⟩ : ∃ g cap', v' = .slice (some ⟨g, 0, none⟩) (0 + 1) cap' := by
      obtain ⟨_, ⟨_, hz⟩ | ⟨g, cap', cur, hv', _⟩⟩ := ho
      · omega
      · exact ⟨g, cap', hv'⟩
    subst hv'
    exact hK g cap' w' (ownsRow_mono ho hbase) (.inr ⟨(ho.lt g rfl).1, hgr⟩)
  · subst hv
    by_cases hroom : n + 1 ≤ cap
    · exact wpList_append_fits w hg s x t hop base e i 1 h1 h2 h4 g n cap xs hs hown' ad 1 c [u] hx rfl hcs hone hroom fun w' ho hgr => hK g cap w' ho (.inl ⟨rfl, hgr⟩)
    · obtain rfl : cap = n := by omega
      refine wpList_plain hg fun K hK' => ?_
      have hcm' : grownCap w (cap + 1) cap e ≤ maxLen := grownCap_le_maxLen w (cap + 1) cap e hmax
      have hge := grownCap_ge w (cap + 1) cap e
      have hrun := run_append_grow (P := P) w t o.type e i z h1 h2 h3 ⟨g, 0, none⟩ cap cap xs (by rw [h4]; exact hl) (hown'.cells rfl) ad 1 c [u] (by rw [h4]; rfl) hcs (by omega) (by omega) (by rw [h5]; exact fits_one hb b2)
      unfold Oper.wp
      simp [execOp, hop, resolve, invoke, builtin, hs, hx, hrun, Result.andThen]
      refine hK' _ _ (hK _ _ _ ⟨?_, .inr ⟨w.heap.size, _, _, rfl, hbase, heap_alloc_new w.drew _, hge, hcm', ?_, ?_⟩⟩ (.inr ⟨Nat.le_refl _, ⟨rfl, rfl, rfl, by simp, fun k hk _ => Below.heap_alloc _ _ _ hk⟩⟩))
      · simp [hl]
      · simp only [Array.size_append, List.size_toArray, size_zeroCells, h6, List.length_append, hl, List.length_singleton]
        omega
      · simp only [Array.toList_append, List.append_assoc]
        rw [← List.append_assoc, show (cap + 1) * 1 = (xs ++ [u]).length by simp [hl]]
        exact List.take_left
end Go.Bel

namespace Go.Bel
open Go Go.RowKit

theorem wpList_append_one {P : Program} (w : World) {ops : Array Oper} {rest : List Oper} {o : Oper} {a : Act} {Q : Exit → Act → World → Prop}
    (hg : o.guard = none) (s x : Operand) (t : TypeId) (hop : o.op = Op.call { callee := Callee.builtin Builtin.append, args := #[s, x], argTypes := #[t, t] })
    (base : Nat) (e : TypeId) (i : TypeInfo) (z : Value) (bytes : Nat) (h1 : P.underlying t = some (.slice e)) (h2 : P.info? e = some i) (h3 : i.zero = some z) (h4 : i.size = 1) (h5 : i.bytes = bytes) (h6 : z.cells.size = 1)
    (v : Value) (n : Nat) (xs : List Value) (hs : a.eval s = v) (hown : w.ownsRow base e 1 v n xs)
    (ad : Addr) (c : Nat) (u : Value) (hx : a.eval x = .slice (some ad) 1 c) (hc : w.cell? ad = some u) (h1c : u.oneCell' = true)
    (hb : bytes ≤ 8) (b2 : n * bytes ≤ 220000000000000) (hb0 : 0 < bytes) (hbase : base ≤ w.heap.size)
    (hK : ∀ g cap w', w'.ownsRow base e 1 (.slice (some ⟨g, 0, none⟩) (n + 1) cap) (n + 1) (xs ++ [u]) → w.grownBy w' v.ownBlock → (v.ownBlock = some g ∨ w.heap.size ≤ g) → wpList P ops Q rest (a.put o.dst (.slice (some ⟨g, 0, none⟩) (n + 1) cap)) w') :
    wpList P ops Q (o :: rest) a w := by
  refine wpList_append_row2 w hg s x t hop base e i z bytes h1 h2 h3 h4 h5 h6 v n xs hs hown ad c u hx hc h1c hb b2 hb0 hbase ?_
  intro g cap w' ho hd
  rcases hd with ⟨h7, h8⟩ | ⟨h7, h8⟩
  · exact hK g cap w' ho (by rw [h7]; exact h8) (.inl h7)
  · exact hK g cap w' ho (grownBy_row h8) (.inr h7)
end Go.Bel

namespace Go.Proofs.YtbpahojchgpdnaaGreatDoor
open Go.RowKit Go.Bel


/- a writer whose row has room for the next bit -/
set_option maxHeartbeats 400000 in
theorem bit_room (b base x : Nat) (v : Value) (bs : List Bool) (B : List Nat) (w : World)
    (h : BitsAt w b base 33 5 v bs B) (hl : bs.length < 1300000000000000) (hr : bs.length % 8 ≠ 0) :
    Calls Tryz.prog 34 #[.pointer (some ⟨b, 0, none⟩), .int .i64 (x : Nat)] w
      fun e w' => e = .returned (.tuple #[]) ∧ ∃ v' B', BitsAt w' b base 33 5 v' (bs ++ [decide (x % 2 = 1)]) B' ∧ Wrt b w v w' v' := by
  obtain ⟨h0, h1, hf0, hf1⟩ := blk_two h.row.blk
  have hlen := h.len
  have hrow := h.row
  obtain ⟨g, cap, rfl, hgb, hgbase, hcs, hfr⟩ := hrow.shape (by omega)
  have hc := hcs (bs.length / 8) (by omega)
  have hfg := hfr (bs.length / 8)
  have hi : (bs.length : Int) / 8 < (B.length : Int) := by omega
  have hr' : ((bs.length : Int) % 8 == 0) = false := beq_eq_false_iff_ne.2 (by omega)
  have HH := hide hrow
  have HL := hide hlen
  clear h hcs hfr hrow hlen
  by_cases hx : x % 2 = 1
  · have hx' : ((x : Int) % 2 == 1) = true := beq_iff_eq.2 (by omega)
    go_enter Tryz.func34, Tryz.ntmps34
    go_wp2
    go_region
    go_wp2
    go_end0
    have HL := unhide HL
    refine ⟨rfl, _, B.set (bs.length / 8) (B[bs.length / 8]?.getD 0 ||| 2 ^ (bs.length % 8)), ⟨?_, ?_⟩, ⟨(((Step.refl _ _).setCell (by exact .inr rfl) _).setCell (by exact .inl rfl) _).drew, fun k hk => .inl hk⟩⟩
    · rw [decide_eq_true hx]; exact (unhide HH).put1 (by omega) hgb
    · simp; omega
  · have hx' : ((x : Int) % 2 == 1) = false := beq_eq_false_iff_ne.2 (by omega)
    go_enter Tryz.func34, Tryz.ntmps34
    go_wp2
    go_end0
    have HL := unhide HL
    refine ⟨rfl, _, B, ⟨?_, ?_⟩, ⟨(Step.refl _ _).setCell (by exact .inl rfl) _, fun k hk => .inl hk⟩⟩
    · rw [decide_eq_false hx]; exact (unhide HH).put0
    · simp; omega

/- a writer whose row is full -/
set_option maxHeartbeats 400000 in
theorem bit_full (b base x : Nat) (v : Value) (bs : List Bool) (B : List Nat) (w : World)
    (h : BitsAt w b base 33 5 v bs B) (hl : bs.length < 1300000000000000) (hbase : base ≤ w.heap.size) (hr : bs.length % 8 = 0) :
    Calls Tryz.prog 34 #[.pointer (some ⟨b, 0, none⟩), .int .i64 (x : Nat)] w
      fun e w' => e = .returned (.tuple #[]) ∧ ∃ v' B', BitsAt w' b base 33 5 v' (bs ++ [decide (x % 2 = 1)]) B' ∧ Wrt b w v w' v' := by
  obtain ⟨h0, h1, hf0, hf1⟩ := blk_two h.row.blk
  have hlen := h.len
  have hrow := h.row
  have hblt := lt_of_block h.row.blk
  have hr' : ((bs.length : Int) % 8 == 0) = true := beq_iff_eq.2 (by omega)
  obtain ⟨i0, hi, hz0, hz1, hz2⟩ := info_parts Tryz.info5
  obtain ⟨va, vn, vc, hvs⟩ : ∃ a n c, v = .slice a n c := by
    obtain ⟨_, ⟨hv, _⟩ | ⟨g, cap, _, hv, _⟩⟩ := hrow.own
    · exact ⟨_, _, _, hv⟩
    · exact ⟨_, _, _, hv⟩
  subst hvs
  have hown := hrow.own
  have HH := hide hrow
  have HL := hide hlen
  have HW := hide hown
  clear h hrow hlen hown
  by_cases hx : x % 2 = 1
  · have hx' : ((x : Int) % 2 == 1) = true := beq_iff_eq.2 (by omega)
    go_enter Tryz.func34, Tryz.ntmps34
    go_wp2_with (at_builtin; refine wpList_append_one _ rfl _ _ 31 rfl base 5 i0 (.int .u8 0) 1 Tryz.underlying31 hi hz0 hz1 hz2 rfl _ B.length (u8s B) rfl ((unhide HW).alloc _) ⟨w.heap.size, 0, none⟩ 1 (.int .u8 0) rfl ?c1o rfl (by decide) ?c4o (by decide) ?c5o ?_)
    case c1o => simp
    case c4o => have := unhide HL; omega
    case c5o => simp; omega
    intro g cap w1 hown' hgr hg
    obtain ⟨hb1, hrow1, hwrt⟩ := (unhide HH).grow _ hown' hgr (by simpa using hg)
    obtain ⟨k0, k1, kf0, kf1⟩ := blk_two hb1
    clear hown' hgr hg h0 h1 hf0 hf1
    have hlen := unhide HL
    have el : (B ++ [0]).length = B.length + 1 := by simp
    obtain ⟨g', cap', hv', hgb, _, hcs, hfr⟩ := hrow1.shape (by simp)
    simp only [Value.slice.injEq, Option.some.injEq, Addr.mk.injEq, and_true] at hv'
    obtain ⟨rfl, _, rfl⟩ := hv'
    have hc := hcs (bs.length / 8) (by rw [el]; omega)
    have hfg := hfr (bs.length / 8)
    obtain ⟨m0, m1, mf0, mf1⟩ := blk_two hrow1.blk
    rw [el] at m0
    obtain ⟨c, hcc⟩ : ∃ c, c = (B ++ [0])[bs.length / 8]?.getD 0 := ⟨_, rfl⟩
    rw [← hcc] at hc
    have HC := hide hcc
    have H1 := hide hrow1
    have H2 := hide hwrt
    clear hcs hfr hrow1 hwrt hb1 el hlen hcc
    have hi : (bs.length : Int) / 8 < ((B.length + 1 : Nat) : Int) := by have := unhide HL; omega
    go_wp2
    generalize hW : w1.setCell ⟨b, 0, none⟩ (.slice (some ⟨g, 0, none⟩) (B.length + 1) cap) = W at *
    clear hW k0 k1 kf0 kf1
    go_region
    go_wp2
    go_end0
    have H1' := unhide H1
    have hlen := unhide HL
    refine ⟨rfl, .slice (some ⟨g, 0, none⟩) (B ++ [0]).length cap, (B ++ [0]).set (bs.length / 8) ((B ++ [0])[bs.length / 8]?.getD 0 ||| 2 ^ (bs.length % 8)), ⟨?_, ?_⟩, ?_⟩
    · rw [decide_eq_true hx, unhide HC]
      have h9 := H1'.put1 (by simp; omega) hgb
      rw [show ((2 : Int) ^ (bs.length % 8) % 256) = 1 by rw [hr]; rfl] at h9
      exact h9
    · simp; omega
    · exact (unhide H2).trans ⟨(((Step.refl _ _).setCell (by exact .inr rfl) _).setCell (by exact .inl rfl) _).drew, fun k hk => .inl hk⟩
  · have hx' : ((x : Int) % 2 == 1) = false := beq_eq_false_iff_ne.2 (by omega)
    go_enter Tryz.func34, Tryz.ntmps34
    go_wp2_with (at_builtin; refine wpList_append_one _ rfl _ _ 31 rfl base 5 i0 (.int .u8 0) 1 Tryz.underlying31 hi hz0 hz1 hz2 rfl _ B.length (u8s B) rfl ((unhide HW).alloc _) ⟨w.heap.size, 0, none⟩ 1 (.int .u8 0) rfl ?c1e rfl (by decide) ?c4e (by decide) ?c5e ?_)
    case c1e => simp
    case c4e => have := unhide HL; omega
    case c5e => simp; omega
    intro g cap w1 hown' hgr hg
    obtain ⟨hb1, hrow1, hwrt⟩ := (unhide HH).grow _ hown' hgr (by simpa using hg)
    obtain ⟨k0, k1, kf0, kf1⟩ := blk_two hb1
    clear hown' hgr hg h0 h1 hf0 hf1
    have hlen := unhide HL
    have el : (B ++ [0]).length = B.length + 1 := by simp
    obtain ⟨m0, m1, mf0, mf1⟩ := blk_two hrow1.blk
    rw [el] at m0
    have H1 := hide hrow1
    have H2 := hide hwrt
    clear hrow1 hwrt hb1 el hlen
    go_wp2
    go_end0
    have H1' := unhide H1
    have hlen := unhide HL
    refine ⟨rfl, .slice (some ⟨g, 0, none⟩) (B ++ [0]).length cap, B ++ [0], ⟨?_, ?_⟩, ?_⟩
    · rw [decide_eq_false hx]; exact H1'.put0
    · simp; omega
    · exact (unhide H2).trans ⟨(Step.refl _ _).setCell (by exact .inl rfl) _, fun k hk => .inl hk⟩

theorem bit_any (b base x : Nat) (v : Value) (bs : List Bool) (B : List Nat) (w : World)
    (h : BitsAt w b base 33 5 v bs B) (hl : bs.length < 1300000000000000) (hbase : base ≤ w.heap.size) :
    Calls Tryz.prog 34 #[.pointer (some ⟨b, 0, none⟩), .int .i64 (x : Nat)] w
      fun e w' => e = .returned (.tuple #[]) ∧ ∃ v' B', BitsAt w' b base 33 5 v' (bs ++ [decide (x % 2 = 1)]) B' ∧ Wrt b w v w' v' := by
  by_cases hr : bs.length % 8 = 0
  · exact bit_full b base x v bs B w h hl hbase hr
  · exact bit_room b base x v bs B w h hl hr
end Go.Proofs.YtbpahojchgpdnaaGreatDoor

namespace Go.Proofs.YtbpahojchgpdnaaGreatDoor
open Go.RowKit Go.Bel

/- a call that writes the bits 'add' at the writer of block b -/
def Adds (b base : Nat) (w : World) (v : Value) (bs add : List Bool) (e : Ending) (w' : World) : Prop :=
  e = .returned (.tuple #[]) ∧ ∃ v', Bw w' b base 33 5 v' (bs ++ add) ∧ Wrt b w v w' v'

abbrev Pen (w : World) (b base : Nat) (v : Value) (bs : List Bool) : Prop := Bw w b base 33 5 v bs ∧ base ≤ w.heap.size

theorem bit_adds (b base x : Nat) (v : Value) (bs : List Bool) (w : World) (h : Pen w b base v bs) (hl : bs.length < 1300000000000000) :
    Calls Tryz.prog 34 #[.pointer (some ⟨b, 0, none⟩), .int .i64 (x : Nat)] w (Adds b base w v bs [decide (x % 2 = 1)]) := by
  obtain ⟨⟨B, hB⟩, hbase⟩ := h
  refine (bit_any b base x v bs B w hB hl hbase).mono ?_
  rintro e w' ⟨rfl, v', B', h1, h2⟩
  exact ⟨rfl, v', ⟨B', h1⟩, h2⟩

theorem pen_of {b base : Nat} {w w' : World} {v v' : Value} {bs bs' : List Bool} (h : Pen w b base v bs) (h1 : Bw w' b base 33 5 v' bs') (h2 : Wrt b w v w' v') : Pen w' b base v' bs' :=
  ⟨h1, Nat.le_trans h.2 h2.step.size⟩

set_option maxHeartbeats 400000 in
theorem number_adds (b base x n : Nat) (v : Value) (bs : List Bool) (w : World) (h : Pen w b base v bs) (hl : bs.length + n < 1300000000000000) (_hx : x < 4611686018427387904) (hn : n ≤ 60) :
    Calls Tryz.prog 21 #[.pointer (some ⟨b, 0, none⟩), .int .i64 (x : Nat), .int .i64 (n : Nat)] w (Adds b base w v bs (numBits x n)) := by
  go_enter Tryz.func21, Tryz.ntmps21
  go_wp2
  go_loopw [6] (fun i wr => ∃ k : Nat, k ≤ n ∧ i = .int .i64 (k : Nat) ∧ ∃ v', Bw wr b base 33 5 v' (bs ++ numBits x k) ∧ Wrt b w v wr v') (fun i _ => n - (intOf i).toNat)
  case atStart => exact ⟨0, Nat.zero_le _, rfl, v, by simpa [numBits] using h.1, Wrt.refl _ _ _⟩
  case round =>
    obtain ⟨k, hk, rfl, v', hb, hw⟩ := hrel
    by_cases hlt : k < n
    · go_wp2_with fail
      rw [show ((x : Int) / 2 ^ k) = ((x / 2 ^ k : Nat) : Int) by simp]
      refine (bit_adds b base (x / 2 ^ k) v' (bs ++ numBits x k) wr (pen_of h hb hw) (by simp [numBits_length]; omega)).mono ?_
      rintro e w1 ⟨rfl, v1, hb1, hw1⟩
      go_wp2
      go_roundw
      case rel => exact ⟨k + 1, by omega, by go_num, v1, by rw [numBits_succ, ← List.append_assoc]; exact hb1, hw.trans hw1⟩
      case measure => simp [intOf]; omega
    · go_wp2
      go_end0
      have : k = n := by omega
      subst this
      exact ⟨rfl, v', hb, hw⟩

set_option maxHeartbeats 400000 in
theorem code_adds (b base x n : Nat) (v : Value) (bs : List Bool) (w : World) (h : Pen w b base v bs) (hl : bs.length + n < 1300000000000000) (_hx : x < 4611686018427387904) (hn : n ≤ 60) :
    Calls Tryz.prog 23 #[.pointer (some ⟨b, 0, none⟩), .int .i64 (x : Nat), .int .i64 (n : Nat)] w (Adds b base w v bs (codeBits x n)) := by
  go_enter Tryz.func23, Tryz.ntmps23
  go_wp2
  go_loopw [6] (fun i wr => ∃ k : Nat, k ≤ n ∧ i = .int .i64 ((n : Int) - 1 - k) ∧ ∃ v', Bw wr b base 33 5 v' (bs ++ codeTo x n k) ∧ Wrt b w v wr v') (fun i _ => (intOf i + 1).toNat)
  case atStart => exact ⟨0, Nat.zero_le _, by go_num, v, by simpa [codeTo] using h.1, Wrt.refl _ _ _⟩
  case round =>
    obtain ⟨k, hk, rfl, v', hb, hw⟩ := hrel
    by_cases hlt : k < n
    · go_wp2_with fail
      rw [show ((x : Int) / 2 ^ (n - 1 - k)) = ((x / 2 ^ (n - 1 - k) : Nat) : Int) by simp]
      refine (bit_adds b base (x / 2 ^ (n - 1 - k)) v' (bs ++ codeTo x n k) wr (pen_of h hb hw) (by simp [codeTo_length]; omega)).mono ?_
      rintro e w1 ⟨rfl, v1, hb1, hw1⟩
      go_wp2
      go_roundw
      case rel => exact ⟨k + 1, by omega, by go_num, v1, by rw [codeTo_succ, ← List.append_assoc]; exact hb1, hw.trans hw1⟩
      case measure => simp [intOf]; omega
    · go_wp2
      go_end0
      have : k = n := by omega
      subst this
      exact ⟨rfl, v', hb, hw⟩
end Go.Proofs.YtbpahojchgpdnaaGreatDoor

namespace Go.Proofs.YtbpahojchgpdnaaGreatDoor
open Go.RowKit Go.Bel

set_option maxRecDepth 20000 in
set_option maxHeartbeats 400000 in
theorem fixed_adds (b base s : Nat) (v : Value) (bs : List Bool) (w : World) (h : Pen w b base v bs) (hl : bs.length + 9 < 1300000000000000) (hs : s < 288) :
    Calls Tryz.prog 18 #[.pointer (some ⟨b, 0, none⟩), .int .i64 (s : Nat)] w (Adds b base w v bs (fixedBits s)) := by
  by_cases h1 : s < 144
  · go_enter Tryz.func18, Tryz.ntmps18
    go_wp2_with fail
    rw [show ((48 : Int) + (s : Int)) = ((48 + s : Nat) : Int) by omega]
    refine (code_adds b base (48 + s) 8 v bs w h (by omega) (by omega) (by omega)).mono ?_
    rintro e w1 ⟨rfl, v1, hb1, hw1⟩
    go_wp2
    go_end0
    exact ⟨rfl, v1, by rw [fixedBits, if_pos h1]; exact hb1, hw1⟩
  by_cases h2 : s < 256
  · go_enter Tryz.func18, Tryz.ntmps18
    go_wp2_with fail
    rw [show ((400 : Int) + (s : Int) - 144) = ((400 + s - 144 : Nat) : Int) by omega]
    refine (code_adds b base (400 + s - 144) 9 v bs w h (by omega) (by omega) (by omega)).mono ?_
    rintro e w1 ⟨rfl, v1, hb1, hw1⟩
    go_wp2
    go_end0
    exact ⟨rfl, v1, by rw [fixedBits, if_neg h1, if_pos h2]; exact hb1, hw1⟩
  by_cases h3 : s < 280
  · go_enter Tryz.func18, Tryz.ntmps18
    go_wp2_with fail
    rw [show ((s : Int) - 256) = ((s - 256 : Nat) : Int) by omega]
    refine (code_adds b base (s - 256) 7 v bs w h (by omega) (by omega) (by omega)).mono ?_
    rintro e w1 ⟨rfl, v1, hb1, hw1⟩
    go_wp2
    go_end0
    exact ⟨rfl, v1, by rw [fixedBits, if_neg h1, if_neg h2, if_pos h3]; exact hb1, hw1⟩
  · go_enter Tryz.func18, Tryz.ntmps18
    go_wp2_with fail
    rw [show ((192 : Int) + (s : Int) - 280) = ((192 + s - 280 : Nat) : Int) by omega]
    refine (code_adds b base (192 + s - 280) 8 v bs w h (by omega) (by omega) (by omega)).mono ?_
    rintro e w1 ⟨rfl, v1, hb1, hw1⟩
    go_wp2
    go_end0
    exact ⟨rfl, v1, by rw [fixedBits, if_neg h1, if_neg h2, if_neg h3]; exact hb1, hw1⟩

set_option maxHeartbeats 400000 in
theorem begin_adds (b base kind : Nat) (last : Bool) (v : Value) (bs : List Bool) (w : World) (h : Pen w b base v bs) (hl : bs.length + 3 < 1300000000000000) (hk : kind < 4) :
    Calls Tryz.prog 17 #[.pointer (some ⟨b, 0, none⟩), .bool last, .int .i64 (kind : Nat)] w (Adds b base w v bs (beginBits last kind)) := by
  cases last with
  | true =>
    go_enter Tryz.func17, Tryz.ntmps17
    go_wp2_with fail
    refine (bit_adds b base 1 v bs w h (by omega)).mono ?_
    rintro e w1 ⟨rfl, v1, hb1, hw1⟩
    go_wp2_with fail
    refine (number_adds b base kind 2 v1 _ w1 (pen_of h hb1 hw1) (by simp; omega) (by omega) (by omega)).mono ?_
    rintro e w2 ⟨rfl, v2, hb2, hw2⟩
    go_wp2
    go_end0
    exact ⟨rfl, v2, by simpa [beginBits] using hb2, hw1.trans hw2⟩
  | false =>
    go_enter Tryz.func17, Tryz.ntmps17
    go_wp2_with fail
    refine (bit_adds b base 0 v bs w h (by omega)).mono ?_
    rintro e w1 ⟨rfl, v1, hb1, hw1⟩
    go_wp2_with fail
    refine (number_adds b base kind 2 v1 _ w1 (pen_of h hb1 hw1) (by simp; omega) (by omega) (by omega)).mono ?_
    rintro e w2 ⟨rfl, v2, hb2, hw2⟩
    go_wp2
    go_end0
    exact ⟨rfl, v2, by simpa [beginBits] using hb2, hw1.trans hw2⟩
end Go.Proofs.YtbpahojchgpdnaaGreatDoor
