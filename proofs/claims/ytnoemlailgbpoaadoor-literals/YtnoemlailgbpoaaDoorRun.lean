/- Proved here: what the decoder's Run does: it makes one step after the other up to the end, or to what is more than was asked for. -/
import Derived.Test.YtnoemlailgbpoaaDoorRunPure
import Derived.Deep.LoopGhost
namespace Go.Proofs.YtnoemlailgbpoaaDoor
open Go.RowKit Go.Bel Go.Maps

/- n steps lead from s to the answer e and the state s' -/
inductive PRun (B : List Nat) : Nat → PS → Nat → PS → Prop
  | done (s : PS) (h : s.place = 3) : PRun B 0 s 0 s
  | much (s s' : PS) (h : PMuch B s s') (h3 : s.place ≠ 3) : PRun B 1 s 11 s'
  | step (n : Nat) (s s1 s' : PS) (e : Nat) (h : PStep B s s1) (h3 : s.place ≠ 3) (k : PRun B n s1 e s') : PRun B (n + 1) s e s'

theorem PRun.inv {B : List Nat} {k e : Nat} {s s' : PS} (h : PRun B k s e s') : (s.place = 3 ∧ e = 0 ∧ s' = s) ∨ (PMuch B s s' ∧ s.place ≠ 3 ∧ e = 11) ∨ ∃ m s2, k = m + 1 ∧ PStep B s s2 ∧ s.place ≠ 3 ∧ PRun B m s2 e s' := by
  cases h
  · exact .inl ⟨‹_›, rfl, rfl⟩
  · exact .inr (.inl ⟨‹_›, ‹_›, rfl⟩)
  · exact .inr (.inr ⟨_, _, rfl, ‹_›, ‹_›, ‹_›⟩)

theorem Holds.place {w : World} {d f base g off cap : Nat} {B : List Nat} {s : PS} {v : Value} (h : Holds w d f base g off cap B s v) :
    w.cell? ⟨d, 0, none⟩ = some (.pointer (some ⟨f, 0, none⟩)) ∧ w.cell? ⟨d, 3, none⟩ = some (.int .i64 (s.place : Nat)) ∧ (∃ x p, w.heap[f]? = some (.cells #[x, .int .i64 ((p : Nat) : Int)] 86 (0, 0))) ∧ d < w.heap.size ∧ f < w.heap.size ∧ g < w.heap.size ∧ (∀ k, v.ownBlock = some k → k < w.heap.size) := by
  obtain ⟨st, rfl, hon, e1, e2, e3, e4, e5, e6, e7, e8, e9⟩ := h.ex
  obtain ⟨c0, _, _, c3, _⟩ := hon.dec.cell
  rw [e3] at c3
  exact ⟨c0, c3, ⟨_, _, hon.feed⟩, lt_of_block hon.dec.blk, lt_of_block hon.feed, hon.glt, fun k hk => (hon.dec.own.lt k hk).2⟩

/- new blocks, and writes to one of them, leave a decoder as it is -/
theorem Holds.step0 {w w' : World} {d f base g off cap : Nat} {B : List Nat} {s : PS} {v : Value} (h : Holds w d f base g off cap B s v) (hs : Step (fun _ => False) w w') : Holds w' d f base g off cap B s v := by
  obtain ⟨st, rfl, hon, e1, e2, e3, e4, e5, e6, e7, e8, e9⟩ := h.ex
  have hd : Dst d f w st.v w' st.v := Dst.step0 hs
  exact h.after (hon.step0 hs) hd rfl e1 e2 e3 e4 e5 e6 e7 (e8.step hd) (fun hp => by
    obtain ⟨mb, m1, m2, m3, m4⟩ := e9 hp
    exact ⟨mb, m1, m2, m3.step hs (fun x => x), m4⟩) rfl h.lg h.bits

/- a write to a block of an error's type leaves a decoder as it is -/
theorem Holds.stepB {w w' : World} {d f base g off cap b1 : Nat} {A : Array Value} {B : List Nat} {s : PS} {v : Value} (h : Holds w d f base g off cap B s v) (hs : Step (· = b1) w w') (hb : w.heap[b1]? = some (.cells A 36 (0, 0))) (hg : g ≠ b1) (h0 : 0 ≠ b1) : Holds w' d f base g off cap B s v := by
  obtain ⟨st, rfl, hon, e1, e2, e3, e4, e5, e6, e7, e8, e9⟩ := h.ex
  have hd : d ≠ b1 := fun x => by have := hon.dec.blk; rw [x, hb] at this; simp at this
  have hf : f ≠ b1 := fun x => by have := hon.feed; rw [x, hb] at this; simp at this
  have hr : ∀ k, st.v.ownBlock = some k → k ≠ b1 := fun k hk x => by
    obtain ⟨_, ⟨hv, _⟩ | ⟨g', _, _, hv, _, hh, _⟩⟩ := hon.dec.own
    · rw [hv] at hk; simp [Value.ownBlock] at hk
    · rw [hv] at hk; simp only [Value.ownBlock, Option.some.injEq] at hk; rw [hk, x, hb] at hh; simp at hh
  have ht : ∀ mb M, TabAt w mb M → mb ≠ b1 := fun mb M hm x => by
    obtain ⟨_, _, _, ⟨es, ck, hh, _⟩, _⟩ := hm
    rw [x, hb] at hh; simp at hh
  have hc : ∀ cb A', w.heap[cb]? = some (.cells A' 94 (0, 0)) → cb ≠ b1 := fun cb A' hm x => by rw [x, hb] at hm; simp at hm
  have hon' : OnD w' d f base g off cap B st s.p :=
    ⟨hon.dec.other (hs.block d (lt_of_block hon.dec.blk) hd) (fun k hk => hs.block k (hon.dec.own.lt k hk).2 (hr k hk)) hs.size, hs.at_ hon.feed hf, hon.src.step hs hg, hon.goff, Nat.lt_of_lt_of_le hon.glt hs.size⟩
  refine ⟨⟨st, rfl, hon', e1, e2, e3, e4, e5, e6, e7, ?_, fun hp => ?_⟩, h.order.step hs h0, h.zero, Nat.lt_of_lt_of_le h.zlt hs.size, h.most, h.lg, h.bits⟩
  · rcases e8 with e8 | ⟨cb, m1, m2, l2, M2, h1, h2, h3, h4, h5, h6, h7⟩
    · exact .inl e8
    · exact .inr ⟨cb, m1, m2, l2, M2, h1, hs.at_ h2 (hc cb _ h2), h3.step hs (ht _ _ h3), h4.step hs (ht _ _ h4), h5, h6, h7⟩
  · obtain ⟨mb, m1, m2, m3, m4⟩ := e9 hp
    exact ⟨mb, m1, m2, m3.step hs (ht _ _ m3), m4⟩

set_option maxHeartbeats 400000 in
theorem whole_step (d f base g off cap x : Nat) (B : List Nat) (s s' : PS) (v : Value) (w : World) (hH : Holds w d f base g off cap B s v)
    (hstep : ∀ w1, Holds w1 d f base g off cap B s v → Calls Tryd.prog 47 #[.pointer (some ⟨d, 0, none⟩)] w1 fun e w' => e = .returned (.int .i64 (x : Nat)) ∧ ∃ v', Holds w' d f base g off cap B s' v' ∧ Dst d f w1 v w' v') :
    Calls Tryd.prog 48 #[.pointer (some ⟨f, 0, none⟩), .func (.func 47) #[.pointer (some ⟨d, 0, none⟩)] #[]] w
      fun e w' => e = .returned (.int .i64 (x : Nat)) ∧ ∃ v', Holds w' d f base g off cap B s' v' ∧ Dst d f w v w' v' := by
  obtain ⟨_, _, ⟨y, p, hF⟩, hdl, hfl, hgl, hol⟩ := hH.place
  have h0l := hH.zlt
  have hnot : ∀ k, w.heap.size ≤ k → ¬ (k = d ∨ k = f ∨ v.ownBlock = some k) := fun k hk hx => by
    rcases hx with hx | hx | hx
    · omega
    · omega
    · have := hol k hx; omega
  refine (whole_ok f d p y x w (fun w1 w' => (∃ v', Holds w' d f base g off cap B s' v' ∧ Dst d f w1 v w' v') ∧ ∃ A, w'.heap[w.heap.size + 1]? = some (.cells A 36 (0, 0))) hF ?_ ?_).mono ?_
  · intro w1 hs hsz hr
    refine (hstep w1 (hH.step0 hs)).mono ?_
    rintro e w' ⟨rfl, v', h1, h2⟩
    exact ⟨rfl, ⟨v', h1, h2⟩, _, h2.step.at_ hr (hnot _ (by omega))⟩
  · rintro w1 w' hs hsz ⟨⟨v', h1, h2⟩, _⟩
    exact h2.step.block _ (by omega) (hnot _ (by omega))
  · rintro e w'' ⟨rfl, w1, w', hs, hsz, ⟨⟨v', h1, h2⟩, A, hA⟩, rfl⟩
    have hs2 : Step (· = w.heap.size + 1) w' (w'.setCell ⟨w.heap.size + 1, 0, none⟩ (.int .i64 (x : Nat))) := (Step.refl (· = w.heap.size + 1) w').setCell (p := ⟨w.heap.size + 1, 0, none⟩) rfl _
    refine ⟨rfl, v', h1.stepB hs2 hA (by omega) (by omega), ?_⟩
    have h3 : Dst d f w v w' v' := ⟨(hs.mono (fun _ x => x.elim)).trans h2.step, fun k hk => (h2.own k hk).imp id (fun hx => by omega)⟩
    exact ⟨h3.step.setNew (by simp) _, h3.own⟩

/- a loop whose rounds are counted -/
set_option maxRecDepth 20000 in
set_option maxHeartbeats 1000000 in
theorem run_ok (d f base g off cap n e : Nat) (B : List Nat) (s s' : PS) (v : Value) (w : World) (hfix : FixedHeadSaid) (hH : Holds w d f base g off cap B s v) (hr : PRun B n s e s') :
    Calls Tryd.prog 32 #[.pointer (some ⟨d, 0, none⟩)] w fun r w' => r = .returned (.int .i64 (e : Nat)) ∧ ∃ v', Holds w' d f base g off cap B s' v' ∧ Dst d f w v w' v' := by
  have hmf : ∀ (fn : Fn) (first cap : Array Value) (w : World), (Instr.makeFunc fn first cap).run Tryd.prog w = .ok (.func fn first cap) w := fun _ _ _ _ => rfl
  have HH := hide hH
  have HR := hide hr
  have HX := hide hfix
  clear hH hr hfix
  go_enter Tryd.func32, Tryd.ntmps32
  go_wp2_with fail
  go_loopg [4] n (fun k u wr => ∃ s1 v1, Holds wr d f base g off cap B s1 v1 ∧ PRun B k s1 e s' ∧ Dst d f w v wr v1)
  case atStart => exact ⟨s, v, unhide HH, unhide HR, Dst.refl _ _ _ _⟩
  case round =>
    obtain ⟨s1, v1, h1, h2, h3⟩ := hrel
    obtain ⟨c0, c3, _⟩ := h1.place
    have H1 := hide h1
    have H3 := hide h3
    clear h1 h3
    rcases h2.inv with ⟨hp, he, hs⟩ | ⟨h, hp, he⟩ | ⟨m, s2, hk, h, hp, k2⟩
    · rw [hp] at c3
      subst hs
      have HE := hide he
      clear hp h2 he
      go_wp2_with fail
      go_ret
      exact ⟨by rw [unhide HE]; rfl, v1, unhide H1, unhide H3⟩
    · have HE := hide he
      have hne : ((s1.place : Int) != 3) = true := by rw [bne_iff_ne]; omega
      have HM := hide h
      clear h hp h2 he
      go_wp2_with fail
      refine (whole_step d f base g off cap 11 B s1 s' v1 _ (unhide H1) (fun w1 hw1 => step_much d f base g off cap B s1 s' v1 w1 hw1 (unhide HM))).mono ?_
      rintro r w2 ⟨rfl, v2, h4, h5⟩
      have H4 := hide h4
      have H5 := hide ((unhide H3).trans h5)
      clear h4 h5
      go_wp2_with fail
      go_ret
      exact ⟨by rw [unhide HE]; rfl, v2, unhide H4, unhide H5⟩
    · have hne : ((s1.place : Int) != 3) = true := by rw [bne_iff_ne]; omega
      have HM := hide h
      have HK := hide k2
      have hkm : m < gk := by omega
      clear h hp k2 h2 hk
      go_wp2_with fail
      refine (whole_step d f base g off cap 0 B s1 s2 v1 _ (unhide H1) (fun w1 hw1 => step_ok d f base g off cap B s1 s2 v1 w1 (unhide HX) hw1 (unhide HM))).mono ?_
      rintro r w2 ⟨rfl, v2, h4, h5⟩
      have H4 := hide h4
      have H5 := hide ((unhide H3).trans h5)
      clear h4 h5
      go_wp2_with fail
      go_roundg m
      case measure => omega
      case rel => exact ⟨_, v2, unhide H4, unhide HK, unhide H5⟩
end Go.Proofs.YtnoemlailgbpoaaDoor
