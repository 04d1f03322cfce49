/- Proved here: what the decoder's Run does, whatever the bits are. -/
import Derived.Test.YtbpahojchgpdnaaGreatDoorGWhole
import Derived.Deep.LoopGhost
namespace Go.Proofs.YtbpahojchgpdnaaGreatDoor
open Go.RowKit Go.Bel Go.Maps

theorem errno_ne {w : World} {d f base g off cap z b1 q : Nat} {A : Array Value} {B : List Nat} {st : DSt} (hon : OnD w d f base g off cap z B st q) (hb : w.heap[b1]? = some (.cells A 43 (0, 0))) : d ≠ b1 ∧ f ≠ b1 ∧ (∀ k, st.v.ownBlock = some k → k ≠ b1) ∧ (∀ mb M, TabAt w mb M → mb ≠ b1) ∧ (∀ cb A', w.heap[cb]? = some (.cells A' 125 (0, 0)) → cb ≠ b1) := by
  refine ⟨fun x => by have := hon.dec.blk; rw [x, hb] at this; simp at this, fun x => by have := hon.feed; rw [x, hb] at this; simp at this, fun k hk x => ?_, fun mb M hm x => ?_, fun cb A' hm x => by rw [x, hb] at hm; simp at hm⟩
  · obtain ⟨_, ⟨hv, _⟩ | ⟨g', _, _, hv, _, hh, _⟩⟩ := hon.dec.own
    · rw [hv] at hk; simp [Value.ownBlock] at hk
    · rw [hv] at hk; simp only [Value.ownBlock, Option.some.injEq] at hk; rw [hk, x, hb] at hh; simp at hh
  · obtain ⟨_, _, _, ⟨es, ck, hh, _⟩, _⟩ := hm
    rw [x, hb] at hh; simp at hh

/- the feed is set, and a block of an error's type is written -/
theorem onD_reset {w w' : World} {d f base g off cap z b1 q p : Nat} {A : Array Value} {B : List Nat} {st : DSt} (hon : OnD w d f base g off cap z B st q) (hs : Step (fun k => k = f ∨ k = b1) w w') (hb : w.heap[b1]? = some (.cells A 43 (0, 0))) (hg : g ≠ b1)
    (hF : w'.heap[f]? = some (.cells #[.slice (some ⟨g, off, none⟩) B.length cap, .int .i64 (p : Nat), .int .i64 (z : Nat)] 91 (0, 0))) : OnD w' d f base g off cap z B st p := by
  obtain ⟨n1, n2, n3, n4, n5⟩ := errno_ne hon hb
  exact ⟨hon.dec.other (hs.block d (lt_of_block hon.dec.blk) (fun x => x.elim hon.dec.ne n1)) (fun k hk => hs.block k (hon.dec.own.lt k hk).2 (fun x => x.elim (fun y => hon.dec.row_ne.2 (y ▸ hk)) (n3 k hk))) hs.size, hF, hon.src.step hs (fun x => x.elim hon.goff.f hg), hon.goff, Nat.lt_of_lt_of_le hon.glt hs.size⟩

theorem HoldsQ.reset {w w' : World} {d f base g off cap z b1 q : Nat} {A : Array Value} {B : List Nat} {s : GS} {v : Value} (h : HoldsQ w d f base g off cap z B s v q) (hs : Step (fun k => k = f ∨ k = b1) w w') (hb : w.heap[b1]? = some (.cells A 43 (0, 0))) (hg : g ≠ b1)
    (hF : w'.heap[f]? = some (.cells #[.slice (some ⟨g, off, none⟩) B.length cap, .int .i64 (s.p : Nat), .int .i64 (z : Nat)] 91 (0, 0))) (hO : OrderAt w) (hz : 4 ≤ d ∧ 4 ≤ f) (hz2 : 4 ≤ b1) (hz3 : 4 ≤ w.heap.size) (hm : s.most ≤ 1048576) (hr : s.out.length ≤ s.most) (hl : s.left ≤ 65535) (hp : s.p ≤ 8 * B.length) :
    HoldsG w' d f base g off cap z B s v := by
  obtain ⟨st, rfl, hon, e1, e2, e3, e4, e5, e6, e7, e8, e9⟩ := h
  obtain ⟨n1, n2, n3, n4, n5⟩ := errno_ne hon hb
  have off : ∀ k, DOff d f st.v k → k ≠ b1 → ¬ (k = f ∨ k = b1) := fun k hk hn x => x.elim hk.f hn
  refine ⟨⟨st, rfl, onD_reset hon hs hb hg hF, e1, e2, e3, e4, e5, e6, e7, ?_, fun h2 => ?_⟩, hO.step hs (fun k hk x => by rcases x with x | x <;> omega), hz, Nat.le_trans hz3 hs.size, hm, hr, hl, hp⟩
  · rcases e8 with e8 | ⟨cb, m1, m2, h1, h2, h3, h4, h5, h6, h7⟩
    · exact .inl e8
    · exact .inr ⟨cb, m1, m2, h1, hs.at_ h2 (off cb h5 (n5 cb _ h2)), h3.step hs (off m1 h6 (n4 _ _ h3)), h4.step hs (off m2 h7 (n4 _ _ h4)), h5, h6, h7⟩
  · have ht := e9 h2
    obtain ⟨mb, a1, a2, a3⟩ := ht.sm
    obtain ⟨x, b1', b2⟩ := ht.dm
    refine ⟨⟨mb, a1, a2.step hs (off mb a3 (n4 _ _ a2)), a3⟩, ht.sl, ⟨x, b1', ?_⟩, ht.dl, ht.sn, ht.dn⟩
    rcases b2 with b2 | ⟨m2, c1, c2, c3⟩
    · exact .inl b2
    · exact .inr ⟨m2, c1, c2.step hs (off m2 c3 (n4 _ _ c2)), c3⟩

theorem HoldsG.toQ {w : World} {d f base g off cap z : Nat} {B : List Nat} {s : GS} {v : Value} (h : HoldsG w d f base g off cap z B s v) : HoldsQ w d f base g off cap z B s v s.p := h.ex

theorem HoldsG.place {w : World} {d f base g off cap z : Nat} {B : List Nat} {s : GS} {v : Value} (h : HoldsG w d f base g off cap z B s v) :
    w.cell? ⟨d, 0, none⟩ = some (.pointer (some ⟨f, 0, none⟩)) ∧ w.cell? ⟨d, 4, none⟩ = some (.int .i64 (s.place : Nat)) ∧ w.heap[f]? = some (.cells #[.slice (some ⟨g, off, none⟩) B.length cap, .int .i64 (s.p : Nat), .int .i64 (z : Nat)] 91 (0, 0)) ∧ d < w.heap.size ∧ f < w.heap.size ∧ g < w.heap.size ∧ (∀ k, v.ownBlock = some k → k < w.heap.size) := by
  obtain ⟨st, rfl, hon, e1, e2, e3, e4, e5, e6, e7, e8, e9⟩ := h.ex
  obtain ⟨c0, _, _, c3, _⟩ := hon.dec.cell
  rw [e3] at c3
  exact ⟨c0, c3, hon.feed, lt_of_block hon.dec.blk, lt_of_block hon.feed, hon.glt, fun k hk => (hon.dec.own.lt k hk).2⟩

theorem HoldsG.step0 {w w' : World} {d f base g off cap z : Nat} {B : List Nat} {s : GS} {v : Value} (h : HoldsG w d f base g off cap z B s v) (hs : Step (fun _ => False) w w') : HoldsG w' d f base g off cap z B s v := by
  obtain ⟨st, rfl, hon, e1, e2, e3, e4, e5, e6, e7, e8, e9⟩ := h.ex
  have hd : Dst d f w st.v w' st.v := Dst.step0 hs
  exact h.after (hon.step0 hs) hd rfl e1 e2 e3 e4 e5 e6 e7 (e8.step hd) (fun hp => (e9 hp).step hd rfl rfl rfl rfl) rfl h.room h.left h.bits

/- a step's call and what Whole makes of it -/
def OneP (r : G) (d f base g off cap z : Nat) (B : List Nat) (s : GS) (w : World) (v : Value) (e : Ending) (w' : World) : Prop :=
  match r with
  | .go s' => e = .returned (.int .i64 0) ∧ ∃ v', HoldsG w' d f base g off cap z B s' v' ∧ Dst d f w v w' v'
  | .no x out => e = .returned (.int .i64 (x : Nat)) ∧ x ≠ 0 ∧ ∃ st q, Outs st s.taken out ∧ OnD w' d f base g off cap z B st q ∧ Dst d f w v w' st.v
  | .miss => e = .returned (.int .i64 3) ∧ ∃ l, (s.place = 1 ∨ s.place = 2 → l = s.last) ∧ HoldsG w' d f base g off cap z B { s with last := l } v ∧ Dst d f w v w' v

theorem StepP.facts {r : G} {d f base g off cap z : Nat} {B : List Nat} {s : GS} {w : World} {v : Value} {e : Ending} {w' : World} (h : StepP r d f base g off cap z B s w v e w') : ∃ v' q st, Dst d f w v w' v' ∧ OnD w' d f base g off cap z B st q := by
  cases r with
  | go s' => obtain ⟨_, v', h1, h2⟩ := h; obtain ⟨st, _, hon, _⟩ := h1.ex; exact ⟨v', _, st, h2, hon⟩
  | no x out => obtain ⟨_, _, st, q, _, h1, h2⟩ := h; exact ⟨_, q, st, h2, h1⟩
  | miss => obtain ⟨_, l, q, _, ⟨st, _, hon, _⟩, h2⟩ := h; exact ⟨_, q, st, h2, hon⟩

set_option maxHeartbeats 400000 in
theorem one_any (d f base g off cap z : Nat) (B : List Nat) (s : GS) (v : Value) (w : World) (hH : HoldsG w d f base g off cap z B s v) :
    Calls Tryz.prog 125 #[.pointer (some ⟨f, 0, none⟩), .func (.func 151) #[.pointer (some ⟨d, 0, none⟩)] #[]] w
      fun e w' => OneP (gStep B s) d f base g off cap z B s w v e w' := by
  obtain ⟨_, _, hF, hdl, hfl, hgl, hol⟩ := hH.place
  have h0l := hH.zlt
  have hnot : ∀ k, w.heap.size ≤ k → ¬ (k = d ∨ k = f ∨ v.ownBlock = some k) := fun k hk hx => by
    rcases hx with hx | hx | hx
    · omega
    · omega
    · have := hol k hx; omega
  refine (whole_bare f d s.p _ w (fun w1 e w' => StepP (gStep B s) d f base g off cap z B s w1 v e w' ∧ ∃ A, w'.heap[w.heap.size + 1]? = some (.cells A 43 (0, 0))) hF ?_ ?_).mono ?_
  · intro w1 hs hsz hr
    refine (step_any d f base g off cap z B s v w1 (hH.step0 hs)).mono ?_
    intro e w' hp
    obtain ⟨v', q, st, hd, hon⟩ := hp.facts
    exact ⟨hp.ends, hp, _, hd.step.at_ hr (hnot _ (by omega))⟩
  · rintro w1 e w' hs hsz ⟨hp, _⟩
    obtain ⟨v', q, st, hd, hon⟩ := hp.facts
    exact ⟨hd.step.block _ (by omega) (hnot _ (by omega)), hd.step.block _ (by omega) (hnot _ (by omega)), hd.step.block _ (by omega) (hnot _ (by omega)), q, hon.feed⟩
  · rintro e w'' ⟨w1, e1, w', hs, hsz, ⟨hp, A, hA⟩, hend⟩
    have dst : ∀ v', Dst d f w1 v w' v' → Dst d f w v w' v' := fun v' h2 => ⟨(hs.mono (fun _ x => x.elim)).trans h2.step, fun k hk => (h2.own k hk).imp id (fun hx => by omega)⟩
    cases hg : gStep B s with
    | go s' =>
      rw [hg] at hp
      obtain ⟨rfl, v', h1, h2⟩ := hp
      rcases hend with ⟨x, hx, rfl, rfl⟩ | ⟨hx, _⟩
      · cases hx
        have hs2 : Step (fun k => k = f ∨ k = w.heap.size + 1) w' (w'.setCell ⟨w.heap.size + 1, 0, none⟩ (.int .i64 0)) := (Step.refl _ w').setCell (p := ⟨w.heap.size + 1, 0, none⟩) (.inr rfl) _
        have hs3 : Step (· = w.heap.size + 1) w' (w'.setCell ⟨w.heap.size + 1, 0, none⟩ (.int .i64 0)) := (Step.refl (· = w.heap.size + 1) w').setCell (p := ⟨w.heap.size + 1, 0, none⟩) rfl _
        have hF' := h1.place.2.2.1
        refine ⟨rfl, v', h1.toQ.reset hs2 hA (by omega) (hs3.at_ hF' (by omega)) h1.order h1.zero (by omega) h1.zlt h1.most h1.room h1.left h1.bits, ?_⟩
        have h3 := dst v' h2
        exact ⟨h3.step.setNew (by simp) _, h3.own⟩
      · cases hx
    | no x out =>
      rw [hg] at hp
      obtain ⟨rfl, hx0, st, q, h1, h2, h3⟩ := hp
      rcases hend with ⟨y, hy, rfl, rfl⟩ | ⟨hy, _⟩
      · have hyx : y = x := by
          have := hy
          simp only [Ending.returned.injEq, Value.int.injEq, true_and] at this
          omega
        subst hyx
        have hs2 : Step (fun k => k = f ∨ k = w.heap.size + 1) w' (w'.setCell ⟨w.heap.size + 1, 0, none⟩ (.int .i64 (y : Nat))) := (Step.refl _ w').setCell (p := ⟨w.heap.size + 1, 0, none⟩) (.inr rfl) _
        have hs3 : Step (· = w.heap.size + 1) w' (w'.setCell ⟨w.heap.size + 1, 0, none⟩ (.int .i64 (y : Nat))) := (Step.refl (· = w.heap.size + 1) w').setCell (p := ⟨w.heap.size + 1, 0, none⟩) rfl _
        refine ⟨rfl, hx0, st, q, h1, onD_reset h2 hs2 hA (by omega) (hs3.at_ h2.feed (by omega)), ?_⟩
        have h4 := dst _ h3
        exact ⟨h4.step.setNew (by simp) _, h4.own⟩
      · cases hy
    | miss =>
      rw [hg] at hp
      obtain ⟨rfl, l, q, h1, h2, h3⟩ := hp
      rcases hend with ⟨y, hy, _⟩ | ⟨_, rfl, h4, h5⟩
      · cases hy
      · have h6 := dst _ h3
        have hzz := h3.step.size
        refine ⟨rfl, l, h1, HoldsQ.reset (s := { s with last := l }) h2 h4 hA (by omega) h5 ((hH.order.step hs (fun _ _ x => x)).step h3.step hH.znot) hH.zero (by omega) (by omega) hH.most hH.room hH.left hH.bits, ?_⟩
        refine ⟨⟨h4.os.trans h6.step.os, h4.tape.trans h6.step.tape, h4.output.trans h6.step.output, Nat.le_trans h6.step.size h4.size, fun k hk hn => ?_⟩, fun k hk => .inl hk⟩
        exact (h4.block k (by have := h6.step.size; omega) (fun x => x.elim (fun y => hn (.inr (.inl y))) (fun y => by omega))).trans (h6.step.block k hk hn)

theorem gPut_taken {s s' : GS} {xs : List Nat} {p : Nat} (h : gPut s xs p = .go s') : s'.taken = s.taken := by
  rw [(gPut_go h).1]
theorem gStep_taken {B : List Nat} {s s' : GS} (h : gStep B s = .go s') : s'.taken = s.taken := by
  unfold gStep at h
  split at h
  · unfold gByte at h
    split at h
    · simp only [G.go.injEq] at h; rw [← h]; rfl
    · split at h
      · exact gPut_taken (s := { s with left := s.left - 1 }) h
      · simp at h
  · split at h
    · unfold gSym at h
      split at h
      · simp at h
      · simp at h
      · split at h
        · exact gPut_taken h
        · split at h
          · simp only [G.go.injEq] at h; rw [← h]; rfl
          · unfold gCopy at h
            split at h
            · simp at h
            · simp at h
            · split at h
              · simp at h
              · simp at h
              · split at h
                · simp at h
                · exact gPut_taken h
    · unfold gHead at h
      split at h
      · split at h
        · split at h
          · split at h
            · simp only [G.go.injEq] at h; rw [← h]
            · simp at h
          · simp at h
        · split at h
          · simp only [G.go.injEq] at h; rw [← h]
          · split at h
            · split at h
              · simp only [G.go.injEq] at h; rw [← h]
              · simp at h
              · simp at h
            · simp at h
      · simp at h

set_option maxRecDepth 20000 in
set_option maxHeartbeats 1000000 in
theorem runG_any (d f base g off cap z n e : Nat) (B : List Nat) (s : GS) (out : List Nat) (q : Nat) (v : Value) (w : World) (hH : HoldsG w d f base g off cap z B s v) (hr : GRun B n s e out q) :
    Calls Tryz.prog 117 #[.pointer (some ⟨d, 0, none⟩)] w fun r w' => r = .returned (.int .i64 (e : Nat)) ∧ ∃ st q', Outs st s.taken out ∧ (e = 0 → q' = q ∧ q ≤ 8 * B.length) ∧ OnD w' d f base g off cap z B st q' ∧ Dst d f w v w' st.v := by
  have hmf : ∀ (fn : Fn) (first cap : Array Value) (w : World), (Instr.makeFunc fn first cap).run Tryz.prog w = .ok (.func fn first cap) w := fun _ _ _ _ => rfl
  have HH := hide hH
  have HR := hide hr
  clear hH hr
  go_enter Tryz.func117, Tryz.ntmps117
  go_wp2_with fail
  go_loopg [4] n (fun k u wr => ∃ s1 v1, HoldsG wr d f base g off cap z B s1 v1 ∧ GRun B k s1 e out q ∧ Dst d f w v wr v1 ∧ s1.taken = s.taken)
  case atStart => exact ⟨s, v, unhide HH, unhide HR, Dst.refl _ _ _ _, rfl⟩
  case round =>
    obtain ⟨s1, v1, h1, h2, h3, htk⟩ := hrel
    have HTK := hide htk
    clear htk
    obtain ⟨c0, c3, _⟩ := h1.place
    have H1 := hide h1
    have H3 := hide h3
    have hone := one_any d f base g off cap z B s1 v1 wr h1
    clear h1 h3
    rcases h2.inv with ⟨hp, he, ho, hq⟩ | ⟨hp, hg, hq⟩ | ⟨hp, hg, he, ho, hq⟩ | ⟨m, s2, hk, hp, hg, k2⟩
    · rw [hp] at c3
      have HE := hide he
      have HO := hide ho
      have HQ := hide hq
      clear hp h2 he ho hq hone
      go_wp2_with fail
      go_ret
      obtain ⟨st, hv, hon, e1, _⟩ := (unhide H1).ex
      refine ⟨by rw [unhide HE]; rfl, st, s1.p, by rw [unhide HO, ← unhide HTK]; exact e1, fun _ => ⟨(unhide HQ).symm, by rw [unhide HQ]; exact (unhide H1).bits⟩, hon, by rw [hv]; exact unhide H3⟩
    · have hne : ((s1.place : Int) != 3) = true := by rw [bne_iff_ne]; omega
      rw [hg] at hone
      have HON := hide hone
      clear hp h2 hq hg hone
      go_wp2_with fail
      refine (unhide HON).mono ?_
      rintro r w2 ⟨rfl, hx, st, q', h4, h5, h6⟩
      have hxb : ((e : Int) != 0) = true := by rw [bne_iff_ne]; omega
      have H4 := hide h4
      have H5 := hide h5
      have H6 := hide ((unhide H3).trans h6)
      clear h4 h5 h6
      go_wp2_with fail
      go_ret
      exact ⟨rfl, st, q', by rw [← unhide HTK]; exact unhide H4, fun h => absurd h hx, unhide H5, unhide H6⟩
    · have hne : ((s1.place : Int) != 3) = true := by rw [bne_iff_ne]; omega
      rw [hg] at hone
      have HON := hide hone
      subst he
      have HO := hide ho
      clear hp h2 hq hg hone ho
      go_wp2_with fail
      refine (unhide HON).mono ?_
      rintro r w2 ⟨rfl, l, h4, h5, h6⟩
      have H5 := hide h5
      have H6 := hide ((unhide H3).trans h6)
      clear h4 h5 h6
      go_wp2_with fail
      go_ret
      obtain ⟨st, hv, hon, e1, _⟩ := (unhide H5).ex
      refine ⟨rfl, st, _, by rw [unhide HO, ← unhide HTK]; exact e1, fun h => by omega, hon, by rw [hv]; exact unhide H6⟩
    · have hne : ((s1.place : Int) != 3) = true := by rw [bne_iff_ne]; omega
      rw [hg] at hone
      have HON := hide hone
      have HK := hide k2
      have HT2 := hide ((gStep_taken hg).trans (unhide HTK))
      have hkm : m < gk := by omega
      clear hp k2 h2 hk hg hone
      go_wp2_with fail
      refine (unhide HON).mono ?_
      rintro r w2 ⟨rfl, v2, h4, h5⟩
      have H4 := hide h4
      have H5 := hide ((unhide H3).trans h5)
      clear h4 h5
      go_wp2_with fail
      go_roundg m
      case measure => omega
      case rel => exact ⟨_, v2, unhide H4, unhide HK, unhide H5, unhide HT2⟩
end Go.Proofs.YtbpahojchgpdnaaGreatDoor
