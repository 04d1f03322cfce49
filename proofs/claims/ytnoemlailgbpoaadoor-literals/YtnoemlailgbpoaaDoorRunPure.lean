/- Proved here: one step of the decoder, by what stands at its bit: heads of types 0 and 2, stored bytes, symbols, ends. -/
import Derived.Test.YtnoemlailgbpoaaDoorWhole
namespace Go.Proofs.YtnoemlailgbpoaaDoor
open Go.RowKit Go.Bel Go.Maps

theorem dealAll_longest_le (L : List Nat) : (dealAll L).longest ≤ 15 := dealTo_longest_le L 15

/- a decoder without its memory: what it has put out, of how many, where it stands, its table, its bit -/
structure PS where
  out : List Nat
  most : Nat
  place : Nat
  last : Bool
  left : Nat
  tab : Tab
  longest : Nat
  p : Nat

def PS.ended (s : PS) (p : Nat) : PS := { s with place := if s.last then 3 else 0, p := if s.last then (p + 7) / 8 * 8 else p }

def fixLens : List Nat := List.replicate 144 8 ++ List.replicate 112 9 ++ List.replicate 24 7 ++ List.replicate 8 8

/- one whole thing is read, and all is well -/
inductive PStep (B : List Nat) : PS → PS → Prop
  | stored (s : PS) (q n : Nat) (last : Bool) (h0 : s.place = 0) (hh : HeadAt B s.p last 0) (hq : q = (s.p + 3 + 7) / 8 * 8) (hp : q + 32 ≤ 8 * B.length) (hn : numAt B q 16 = n) (hm : numAt B (q + 16) 16 = 65535 - n) (hn2 : n ≤ 65535) :
      PStep B s { s with last := last, left := n, place := 1, p := q + 32 }
  | told (s : PS) (last : Bool) (pos : Nat → Nat) (L : List Nat) (h0 : s.place = 0) (hh : HeadAt B s.p last 2) (ht : ToldAt B (s.p + 3) pos L) :
      PStep B s { s with last := last, place := 2, tab := (dealAll (L.take 257)).tab, longest := (dealAll (L.take 257)).longest, p := pos 258 }
  | fixed (s : PS) (last : Bool) (h0 : s.place = 0) (hh : HeadAt B s.p last 1) :
      PStep B s { s with last := last, place := 2, tab := (dealAll fixLens).tab, longest := (dealAll fixLens).longest, p := s.p + 3 }
  | byte (s : PS) (h0 : s.place = 1) (hl : 0 < s.left) (hl2 : s.left ≤ 65535) (hp : s.p + 8 ≤ 8 * B.length) (hr : s.out.length < s.most) :
      PStep B s { s with out := s.out ++ [numAt B s.p 8], left := s.left - 1, p := s.p + 8 }
  | bytes (s : PS) (h0 : s.place = 1) (hl : s.left = 0) (hp : s.p ≤ 8 * B.length) : PStep B s (s.ended s.p)
  | sym (s : PS) (q c : Nat) (h0 : s.place = 2) (hc : CodeAt s.longest s.tab B s.p q c) (h256 : c < 256) (hr : s.out.length < s.most) : PStep B s { s with out := s.out ++ [c], p := q }
  | syms (s : PS) (q : Nat) (h0 : s.place = 2) (hc : CodeAt s.longest s.tab B s.p q 256) : PStep B s (s.ended q)

/- one whole thing is read, and it is more than was asked for -/
inductive PMuch (B : List Nat) : PS → PS → Prop
  | byte (s : PS) (h0 : s.place = 1) (hl : 0 < s.left) (hl2 : s.left ≤ 65535) (hp : s.p + 8 ≤ 8 * B.length) (hr : s.out.length = s.most) : PMuch B s { s with left := s.left - 1, p := s.p + 8 }
  | sym (s : PS) (q c : Nat) (h0 : s.place = 2) (hc : CodeAt s.longest s.tab B s.p q c) (h256 : c < 256) (hr : s.out.length = s.most) : PMuch B s { s with p := q }

/- the fixed tables, if they have been made -/
def FixAt (w : World) (d f : Nat) (v fx : Value) : Prop :=
  fx = .pointer none ∨ ∃ cb m1 m2 l2 M2, fx = .pointer (some ⟨cb, 0, none⟩) ∧ w.heap[cb]? = some (.cells #[.map (some m1), .int .i64 ((dealAll fixLens).longest : Nat), .map (some m2), .int .i64 (l2 : Nat)] 94 (0, 0)) ∧ TabAt w m1 (dealAll fixLens).tab ∧ TabAt w m2 M2 ∧ DOff d f v cb ∧ DOff d f v m1 ∧ DOff d f v m2

theorem FixAt.step {w w' : World} {d f : Nat} {v v' fx : Value} (h : FixAt w d f v fx) (hs : Dst d f w v w' v') : FixAt w' d f v' fx := by
  rcases h with h | ⟨cb, m1, m2, l2, M2, h1, h2, h3, h4, h5, h6, h7⟩
  · exact .inl h
  · exact .inr ⟨cb, m1, m2, l2, M2, h1, hs.step.at_ h2 h5.not, h3.step hs.step h6.not, h4.step hs.step h7.not, h5.step (lt_of_block h2) hs, h6.step h3.lt hs, h7.step h4.lt hs⟩

structure Holds (w : World) (d f base g off cap : Nat) (B : List Nat) (s : PS) (v : Value) : Prop where
  ex : ∃ st : DSt, st.v = v ∧ OnD w d f base g off cap B st s.p ∧ st.out = s.out ∧ st.most = s.most ∧ st.place = s.place ∧ st.last = s.last ∧ st.left = s.left ∧ (∃ x, st.sm = .map x) ∧ (∃ x, st.dm = .map x) ∧ FixAt w d f v st.fx ∧
    (s.place = 2 → ∃ mb, st.sm = .map (some mb) ∧ st.sl = s.longest ∧ TabAt w mb s.tab ∧ DOff d f v mb)
  order : OrderAt w
  zero : DOff d f v 0
  zlt : 0 < w.heap.size
  most : s.most ≤ 1048576
  lg : s.longest ≤ 15
  bits : s.p ≤ 8 * B.length


/- what fixedHead does, stated to be shown apart -/
def FixedHeadSaid : Prop :=
  ∀ (d f base g off cap p : Nat) (B : List Nat) (st : DSt) (w : World), OnD w d f base g off cap B st p → FixAt w d f st.v st.fx → (∃ x, st.sm = .map x) → (∃ x, st.dm = .map x) →
    Calls Tryd.prog 78 #[.pointer (some ⟨d, 0, none⟩)] w fun e w' => e = .returned (.int .i64 0) ∧ ∃ (mb : Nat) (fx dm : Value) (dl : Nat),
      OnD w' d f base g off cap B { st with sm := .map (some mb), sl := (dealAll fixLens).longest, dm := dm, dl := dl, fx := fx, place := 2 } p ∧ (∃ x, dm = .map x) ∧ TabAt w' mb (dealAll fixLens).tab ∧ DOff d f st.v mb ∧ FixAt w' d f st.v fx ∧ Dst d f w st.v w' st.v

set_option maxRecDepth 20000 in
set_option maxHeartbeats 400000 in
theorem step_head (d x : Nat) (w : World) (Q : World → Prop) (hc : w.cell? ⟨d, 3, none⟩ = some (.int .i64 ((0 : Nat) : Int))) (h : Calls Tryd.prog 57 #[.pointer (some ⟨d, 0, none⟩)] w fun e w' => e = .returned (.int .i64 (x : Nat)) ∧ Q w') :
    Calls Tryd.prog 47 #[.pointer (some ⟨d, 0, none⟩)] w fun e w' => e = .returned (.int .i64 (x : Nat)) ∧ Q w' := by
  have HH := hide h
  clear h
  go_enter Tryd.func47, Tryd.ntmps47
  go_wp2_with fail
  refine (unhide HH).mono ?_
  rintro e w1 ⟨rfl, hq⟩
  have HQ := hide hq
  clear hq
  go_wp2_with fail
  go_ret
  exact ⟨rfl, unhide HQ⟩

set_option maxRecDepth 20000 in
set_option maxHeartbeats 400000 in
theorem step_byte (d x : Nat) (w : World) (Q : World → Prop) (hc : w.cell? ⟨d, 3, none⟩ = some (.int .i64 ((1 : Nat) : Int))) (h : Calls Tryd.prog 55 #[.pointer (some ⟨d, 0, none⟩)] w fun e w' => e = .returned (.int .i64 (x : Nat)) ∧ Q w') :
    Calls Tryd.prog 47 #[.pointer (some ⟨d, 0, none⟩)] w fun e w' => e = .returned (.int .i64 (x : Nat)) ∧ Q w' := by
  have HH := hide h
  clear h
  go_enter Tryd.func47, Tryd.ntmps47
  go_wp2_with fail
  refine (unhide HH).mono ?_
  rintro e w1 ⟨rfl, hq⟩
  have HQ := hide hq
  clear hq
  go_wp2_with fail
  go_ret
  exact ⟨rfl, unhide HQ⟩

set_option maxRecDepth 20000 in
set_option maxHeartbeats 400000 in
theorem step_sym (d x : Nat) (w : World) (Q : World → Prop) (hc : w.cell? ⟨d, 3, none⟩ = some (.int .i64 ((2 : Nat) : Int))) (h : Calls Tryd.prog 56 #[.pointer (some ⟨d, 0, none⟩)] w fun e w' => e = .returned (.int .i64 (x : Nat)) ∧ Q w') :
    Calls Tryd.prog 47 #[.pointer (some ⟨d, 0, none⟩)] w fun e w' => e = .returned (.int .i64 (x : Nat)) ∧ Q w' := by
  have HH := hide h
  clear h
  go_enter Tryd.func47, Tryd.ntmps47
  go_wp2_with fail
  refine (unhide HH).mono ?_
  rintro e w1 ⟨rfl, hq⟩
  have HQ := hide hq
  clear hq
  go_wp2_with fail
  go_ret
  exact ⟨rfl, unhide HQ⟩

theorem Holds.after {w w' : World} {d f base g off cap : Nat} {B : List Nat} {s s' : PS} {v v' : Value} {st : DSt} (h : Holds w d f base g off cap B s v) (ho : OnD w' d f base g off cap B st s'.p) (hd : Dst d f w v w' v') (hv : st.v = v')
    (e1 : st.out = s'.out) (e2 : st.most = s'.most) (e3 : st.place = s'.place) (e4 : st.last = s'.last) (e5 : st.left = s'.left) (e6 : ∃ x, st.sm = .map x) (e7 : ∃ x, st.dm = .map x) (e8 : FixAt w' d f v' st.fx)
    (e9 : s'.place = 2 → ∃ mb, st.sm = .map (some mb) ∧ st.sl = s'.longest ∧ TabAt w' mb s'.tab ∧ DOff d f v' mb) (hm : s'.most = s.most) (hl : s'.longest ≤ 15) (hb : s'.p ≤ 8 * B.length) : Holds w' d f base g off cap B s' v' :=
  ⟨⟨st, hv, ho, e1, e2, e3, e4, e5, e6, e7, e8, e9⟩, h.order.step hd.step h.zero.not, h.zero.step h.zlt hd, Nat.lt_of_lt_of_le h.zlt hd.step.size, by rw [hm]; exact h.most, hl, hb⟩

theorem endPos_eq (st : DSt) (s : PS) (p : Nat) (h : st.last = s.last) : endPos st p = (s.ended p).p ∧ st.ended.place = (s.ended p).place := by
  unfold endPos PS.ended DSt.ended
  rw [h]
  exact ⟨rfl, rfl⟩
theorem ended_le (s : PS) (p n : Nat) (h : p ≤ 8 * n) : (s.ended p).p ≤ 8 * n := by
  unfold PS.ended; dsimp only; split <;> omega

set_option maxHeartbeats 400000 in
theorem step_ok (d f base g off cap : Nat) (B : List Nat) (s s' : PS) (v : Value) (w : World) (hfix : FixedHeadSaid) (hH : Holds w d f base g off cap B s v) (hs : PStep B s s') :
    Calls Tryd.prog 47 #[.pointer (some ⟨d, 0, none⟩)] w fun e w' => e = .returned (.int .i64 ((0 : Nat) : Int)) ∧ ∃ v', Holds w' d f base g off cap B s' v' ∧ Dst d f w v w' v' := by
  obtain ⟨st, rfl, hon, e1, e2, e3, e4, e5, e6, e7, e8, e9⟩ := hH.ex
  have hmu := hon.src.much
  have hc3 := hon.dec.cell.2.2.2.1
  rw [e3] at hc3
  have hmost : st.most ≤ 1048576 := by rw [e2]; exact hH.most
  cases hs with
  | stored q n last h0 hh hq hp hn hm hn2 =>
    rw [h0] at hc3
    refine step_head d 0 w _ hc3 ((head_stored d f base g off cap s.p q n last B st w hon hh hq hp hn hm hn2).mono ?_)
    rintro e w' ⟨rfl, h1, h2⟩
    exact ⟨rfl, st.v, hH.after h1 h2 rfl e1 e2 rfl rfl rfl e6 e7 (e8.step h2) (fun h => by simp at h) rfl hH.lg hp, h2⟩
  | told last pos L h0 hh ht =>
    rw [h0] at hc3
    refine step_head d 0 w _ hc3 ((head_told d f base g off cap s.p last pos L B st w hon hh hH.order hH.zero.f hH.zero ht e6 e7).mono ?_)
    rintro e w' ⟨mb, rfl, hmb, htab, h1, h2⟩
    have hx := (ht.code 257 (by omega)).there
    refine ⟨rfl, st.v, hH.after h1 h2 rfl e1 e2 rfl rfl e5 ⟨_, rfl⟩ ⟨_, rfl⟩ (e8.step h2) (fun _ => ⟨mb, rfl, rfl, htab, ?_⟩) rfl (dealAll_longest_le _) hx, h2⟩
    have a1 := lt_of_block hon.dec.blk
    have a2 := lt_of_block hon.feed
    exact ⟨by omega, by omega, fun x => by have := (hon.dec.own.lt mb x).2; omega⟩
  | fixed last h0 hh =>
    rw [h0] at hc3
    refine step_head d 0 w _ hc3 ((head_fixed d f base g off cap s.p last B st w hon hh (fun _ w' => ∃ v', Holds w' d f base g off cap B { s with last := last, place := 2, tab := (dealAll fixLens).tab, longest := (dealAll fixLens).longest, p := s.p + 3 } v' ∧ Dst d f w st.v w' v') ?_).mono ?_)
    · intro w3 h3 hd3
      refine (hfix d f base g off cap _ B _ w3 h3 (e8.step hd3) e6 e7).mono ?_
      rintro e w' ⟨rfl, mb, fx, dm, dl, h1, h4, h5, h6, h7, h8⟩
      have h9 := hd3.trans h8
      have h10 := dealAll_longest_le fixLens
      generalize dealAll fixLens = D at h1 h5 h10 ⊢
      exact ⟨rfl, st.v, hH.after h1 h9 rfl e1 e2 rfl rfl e5 ⟨_, rfl⟩ h4 h7 (fun _ => ⟨mb, rfl, rfl, h5, h6⟩) rfl h10 hh.there, h9⟩
    · rintro e w' ⟨rfl, v', h1, h2⟩
      exact ⟨rfl, v', h1, h2⟩
  | byte h0 hl hl2 hp hr =>
    rw [h0] at hc3
    refine step_byte d 0 w _ hc3 ((storedByte_room d f base g off cap s.p B st w hon hp (by omega) (by omega) hmost (by rw [e1, e2]; exact hr)).mono ?_)
    rintro e w' ⟨rfl, v', h1, h2⟩
    exact ⟨rfl, v', hH.after h1 h2 rfl (by rw [e1]) e2 e3 e4 (by rw [e5]) e6 e7 (e8.step h2) (fun h => by rw [h0] at h; simp at h) rfl hH.lg hp, h2⟩
  | bytes h0 hl hp =>
    rw [h0] at hc3
    have he := endPos_eq st s s.p e4
    refine step_byte d 0 w _ hc3 ((storedByte_end d f base g off cap s.p B st w hon (by omega) (by omega)).mono ?_)
    rintro e w' ⟨rfl, h1, h2⟩
    rw [he.1] at h1
    refine ⟨rfl, st.v, hH.after h1 h2 rfl e1 e2 he.2 e4 e5 e6 e7 (e8.step h2) (fun h => ?_) rfl hH.lg (ended_le s s.p _ hp), h2⟩
    exfalso
    unfold PS.ended at h; dsimp only at h; split at h <;> omega
  | sym q c h0 hc h256 hr =>
    rw [h0] at hc3
    obtain ⟨mb, m1, m2, m3, m4⟩ := e9 h0
    have hlt := hc.lt
    have hcode := hc.code1 (w := w) (f := f) (mb := mb) m3 m4.f hH.lg
    rw [← m2] at hcode
    refine step_sym d 0 w _ hc3 ((symbol_room d f base g off cap s.p (q - s.p) mb c s.tab B st w hon m1 hcode (by omega) hmost (by rw [e1, e2]; exact hr) h256).mono ?_)
    rintro e w' ⟨rfl, v', h1, h2⟩
    rw [show s.p + (q - s.p) = q by omega] at h1
    exact ⟨rfl, v', hH.after h1 h2 rfl (by rw [e1]) e2 e3 e4 e5 e6 e7 (e8.step h2) (fun _ => ⟨mb, m1, m2, m3.step h2.step m4.not, m4.step m3.lt h2⟩) rfl hH.lg hc.there, h2⟩
  | syms q h0 hc =>
    rw [h0] at hc3
    obtain ⟨mb, m1, m2, m3, m4⟩ := e9 h0
    have hlt := hc.lt
    have hcode := hc.code1 (w := w) (f := f) (mb := mb) m3 m4.f hH.lg
    rw [← m2] at hcode
    have he := endPos_eq st s q e4
    refine step_sym d 0 w _ hc3 ((symbol_end d f base g off cap s.p (q - s.p) mb 256 s.tab B st w hon m1 hcode (by omega) hmost rfl).mono ?_)
    rintro e w' ⟨rfl, h1, h2⟩
    rw [show s.p + (q - s.p) = q by omega, he.1] at h1
    refine ⟨rfl, st.v, hH.after h1 h2 rfl e1 e2 he.2 e4 e5 e6 e7 (e8.step h2) (fun h => ?_) rfl hH.lg (ended_le s q _ hc.there), h2⟩
    exfalso
    unfold PS.ended at h; dsimp only at h; split at h <;> omega

set_option maxHeartbeats 400000 in
theorem step_much (d f base g off cap : Nat) (B : List Nat) (s s' : PS) (v : Value) (w : World) (hH : Holds w d f base g off cap B s v) (hs : PMuch B s s') :
    Calls Tryd.prog 47 #[.pointer (some ⟨d, 0, none⟩)] w fun e w' => e = .returned (.int .i64 ((11 : Nat) : Int)) ∧ ∃ v', Holds w' d f base g off cap B s' v' ∧ Dst d f w v w' v' := by
  obtain ⟨st, rfl, hon, e1, e2, e3, e4, e5, e6, e7, e8, e9⟩ := hH.ex
  have hmu := hon.src.much
  have hc3 := hon.dec.cell.2.2.2.1
  rw [e3] at hc3
  have hmost : st.most ≤ 1048576 := by rw [e2]; exact hH.most
  cases hs with
  | byte h0 hl hl2 hp hr =>
    rw [h0] at hc3
    refine step_byte d 11 w _ hc3 ((storedByte_full d f base g off cap s.p B st w hon hp (by omega) (by omega) hmost (by rw [e1, e2]; exact hr)).mono ?_)
    rintro e w' ⟨rfl, h1, h2⟩
    exact ⟨rfl, st.v, hH.after h1 h2 rfl e1 e2 e3 e4 (by rw [e5]) e6 e7 (e8.step h2) (fun h => by rw [h0] at h; simp at h) rfl hH.lg hp, h2⟩
  | sym q c h0 hc h256 hr =>
    rw [h0] at hc3
    obtain ⟨mb, m1, m2, m3, m4⟩ := e9 h0
    have hlt := hc.lt
    have hcode := hc.code1 (w := w) (f := f) (mb := mb) m3 m4.f hH.lg
    rw [← m2] at hcode
    refine step_sym d 11 w _ hc3 ((symbol_full d f base g off cap s.p (q - s.p) mb c s.tab B st w hon m1 hcode (by omega) hmost (by rw [e1, e2]; exact hr) h256).mono ?_)
    rintro e w' ⟨rfl, h1, h2⟩
    rw [show s.p + (q - s.p) = q by omega] at h1
    exact ⟨rfl, st.v, hH.after h1 h2 rfl e1 e2 e3 e4 e5 e6 e7 (e8.step h2) (fun _ => ⟨mb, m1, m2, m3.step h2.step m4.not, m4.step m3.lt h2⟩) rfl hH.lg hc.there, h2⟩

end Go.Proofs.YtnoemlailgbpoaaDoor
