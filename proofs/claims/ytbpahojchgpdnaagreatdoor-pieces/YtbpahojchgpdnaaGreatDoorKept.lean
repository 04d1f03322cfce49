/- Proved here: how a decoder lies in memory, its tables of symbols and distances with it; nothing of the program. -/
import Derived.Test.YtbpahojchgpdnaaGreatDoorGCoding
set_option maxRecDepth 20000
set_option maxHeartbeats 4000000
namespace Go.Proofs.YtbpahojchgpdnaaGreatDoor
open Go.RowKit Go.Bel Go.Maps
def FarD (w : World) (d f : Nat) (v : Value) (x : Value) (D : Dealt) : Prop := (x = .map none ∧ D.longest = 0) ∨ ∃ mb, x = .map (some mb) ∧ TabAt w mb D.tab ∧ DOff d f v mb
theorem FarD.step {w w' : World} {d f : Nat} {v v' x : Value} {D : Dealt} (h : FarD w d f v x D) (hs : Dst d f w v w' v') : FarD w' d f v' x D := by
 rcases h with h | ⟨mb, h1, h2, h3⟩
 ·exact .inl h
 ·exact .inr ⟨mb, h1, h2.step hs.step h3.not, h3.step h2.lt hs⟩
def FixG (w : World) (d f : Nat) (v fx : Value) : Prop :=
 fx = .pointer none ∨ ∃ cb m1 m2, fx = .pointer (some ⟨cb, 0, none⟩) ∧ w.heap[cb]? = some (.cells #[.map (some m1), .int .i64 ((dealAll fixLensG).longest : Nat), .map (some m2), .int .i64 ((dealAll fixDist).longest : Nat)] 125 (0, 0)) ∧ TabAt w m1 (dealAll fixLensG).tab ∧ TabAt w m2 (dealAll fixDist).tab ∧ DOff d f v cb ∧ DOff d f v m1 ∧ DOff d f v m2
theorem FixG.step {w w' : World} {d f : Nat} {v v' fx : Value} (h : FixG w d f v fx) (hs : Dst d f w v w' v') : FixG w' d f v' fx := by
 rcases h with h | ⟨cb, m1, m2, h1, h2, h3, h4, h5, h6, h7⟩
 ·exact .inl h
 ·exact .inr ⟨cb, m1, m2, h1, hs.step.at_ h2 h5.not, h3.step hs.step h6.not, h4.step hs.step h7.not, h5.step (lt_of_block h2) hs, h6.step h3.lt hs, h7.step h4.lt hs⟩
structure Tabs (w : World) (d f : Nat) (v : Value) (st : DSt) (ls ld : List Nat) : Prop where
 sm : ∃ mb, st.sm = .map (some mb) ∧ TabAt w mb (dealAll ls).tab ∧ DOff d f v mb
 sl : st.sl = (dealAll ls).longest
 dm : ∃ x, st.dm = .map x ∧ FarD w d f v (.map x) (dealAll ld)
 dl : st.dl = (dealAll ld).longest
 sn : ls.length ≤ 1000
 dn : ld.length ≤ 1000
theorem Tabs.step {w w' : World} {d f : Nat} {v v' : Value} {st st' : DSt} {ls ld : List Nat} (h : Tabs w d f v st ls ld) (hs : Dst d f w v w' v') (e1 : st'.sm = st.sm) (e2 : st'.sl = st.sl) (e3 : st'.dm = st.dm) (e4 : st'.dl = st.dl) : Tabs w' d f v' st' ls ld := by
 obtain ⟨mb, a1, a2, a3⟩ := h.sm
 obtain ⟨x, b1, b2⟩ := h.dm
 exact ⟨⟨mb, e1.trans a1, a2.step hs.step a3.not, a3.step a2.lt hs⟩, e2.trans h.sl, ⟨x, e3.trans b1, b2.step hs⟩, e4.trans h.dl, h.sn, h.dn⟩
structure HoldsG (w : World) (d f base g off cap z : Nat) (B : List Nat) (s : GS) (v : Value) : Prop where
 ex : ∃ st : DSt, st.v = v ∧ OnD w d f base g off cap z B st s.p ∧ Outs st s.taken s.out ∧ st.room + s.out.length = s.most ∧ st.place = s.place ∧ st.last = s.last ∧ st.left = s.left ∧ (∃ x, st.sm = .map x) ∧ (∃ x, st.dm = .map x) ∧ FixG w d f v st.fx ∧ (s.place = 2 → Tabs w d f v st s.ls s.ld)
 order : OrderAt w
 zero : 4 ≤ d ∧ 4 ≤ f
 zlt : 4 ≤ w.heap.size
 most : s.most ≤ 1048576
 room : s.out.length ≤ s.most
 left : s.left ≤ 65535
 bits : s.p ≤ 8 * B.length
theorem HoldsG.znot {w : World} {d f base g off cap z : Nat} {B : List Nat} {s : GS} {v : Value} (h : HoldsG w d f base g off cap z B s v) : ∀ k, k < 4 → ¬ (k = d ∨ k = f ∨ v.ownBlock = some k) := by
 obtain ⟨st, hv, hon, _⟩ := h.ex
 have h1 := h.zero
 have h2 := hon.dec.dbase
 intro k hk hx
 rcases hx with hx | hx | hx
 ·omega
 ·omega
 ·rw [← hv] at hx
  have := (hon.dec.own.lt k hx).1
  omega
theorem HoldsG.after {w w' : World} {d f base g off cap z : Nat} {B : List Nat} {s s' : GS} {v v' : Value} {st : DSt} (h : HoldsG w d f base g off cap z B s v) (ho : OnD w' d f base g off cap z B st s'.p) (hd : Dst d f w v w' v') (hv : st.v = v')
  (e1 : Outs st s'.taken s'.out) (e2 : st.room + s'.out.length = s'.most) (e3 : st.place = s'.place) (e4 : st.last = s'.last) (e5 : st.left = s'.left) (e6 : ∃ x, st.sm = .map x) (e7 : ∃ x, st.dm = .map x) (e8 : FixG w' d f v' st.fx)
  (e9 : s'.place = 2 → Tabs w' d f v' st s'.ls s'.ld) (hm : s'.most = s.most) (hr : s'.out.length ≤ s'.most) (hl : s'.left ≤ 65535) (hb : s'.p ≤ 8 * B.length) : HoldsG w' d f base g off cap z B s' v' :=
 ⟨⟨st, hv, ho, e1, e2, e3, e4, e5, e6, e7, e8, e9⟩, h.order.step hd.step h.znot, h.zero, Nat.le_trans h.zlt hd.step.size, by rw [hm]; exact h.most, hr, hl, hb⟩
theorem tab_lt {L : List Nat} (hL : L.length ≤ 1000) : ∀ c s, (dealAll L).tab c = some s → s < 100000 := fun c s h => by
 have := ((dealTo_tab L 15 c s).1 h).1
 omega
theorem longest_le (L : List Nat) : (dealAll L).longest ≤ 15 := dealTo_longest_le L 15
def HoldsQ (w : World) (d f base g off cap z : Nat) (B : List Nat) (s : GS) (v : Value) (q : Nat) : Prop :=
 ∃ st : DSt, st.v = v ∧ OnD w d f base g off cap z B st q ∧ Outs st s.taken s.out ∧ st.room + s.out.length = s.most ∧ st.place = s.place ∧ st.last = s.last ∧ st.left = s.left ∧ (∃ x, st.sm = .map x) ∧ (∃ x, st.dm = .map x) ∧ FixG w d f v st.fx ∧ (s.place = 2 → Tabs w d f v st s.ls s.ld)
def StepP (r : G) (d f base g off cap z : Nat) (B : List Nat) (s : GS) (w : World) (v : Value) (e : Ending) (w' : World) : Prop :=
 match r with
 | .go s' => e = .returned (.int .i64 0) ∧ ∃ v', HoldsG w' d f base g off cap z B s' v' ∧ Dst d f w v w' v'
 | .no x out => e = .returned (.int .i64 (x : Nat)) ∧ x ≠ 0 ∧ ∃ st q, Outs st s.taken out ∧ OnD w' d f base g off cap z B st q ∧ Dst d f w v w' st.v
 | .miss => e = lost ∧ ∃ l q, (s.place = 1 ∨ s.place = 2 → l = s.last) ∧ HoldsQ w' d f base g off cap z B { s with last := l } v q ∧ Dst d f w v w' v
end Go.Proofs.YtbpahojchgpdnaaGreatDoor
namespace Go.Proofs.YtbpahojchgpdnaaGreatDoor
open Go.RowKit Go.Bel Go.Maps
theorem ended_eq (st : DSt) (s : GS) (p : Nat) (h : st.last = s.last) : endPos st p = (s.ended p).p ∧ st.ended.place = (s.ended p).place := by
 unfold endPos GS.ended DSt.ended
 rw [h]
 exact ⟨rfl, rfl⟩
theorem ended_after {w w' : World} {d f base g off cap z p : Nat} {B : List Nat} {s : GS} {v : Value} {st : DSt} (h : HoldsG w d f base g off cap z B s v) (hv : st.v = v) (ho : OnD w' d f base g off cap z B st.ended (endPos st p)) (hd : Dst d f w v w' v) (hp : p ≤ 8 * B.length)
  (e1 : Outs st s.taken s.out) (e2 : st.room + s.out.length = s.most) (e4 : st.last = s.last) (e5 : st.left = s.left) (e6 : ∃ x, st.sm = .map x) (e7 : ∃ x, st.dm = .map x) (e8 : FixG w d f v st.fx) : HoldsG w' d f base g off cap z B (s.ended p) v := by
 have he := ended_eq st s p e4
 rw [he.1] at ho
 refine h.after ho hd hv (e1.same rfl rfl) e2 he.2 e4 e5 e6 e7 (e8.step hd) (fun hx => ?_) rfl h.room h.left (ended_facts s p _ hp).2.1
 exfalso
 unfold GS.ended at hx
 dsimp only at hx
 split at hx <;> omega
theorem storedByte_miss (d f base g off cap z p : Nat) (B : List Nat) (st : DSt) (w : World) (h : OnD w d f base g off cap z B st p) (hp : p ≤ 8 * B.length) (hp2 : 8 * B.length < p + 8) (h0 : 0 < st.left) (hl : st.left ≤ 65535) :
  Calls Tryz.prog 173 #[.pointer (some ⟨d, 0, none⟩)] w
   fun e w' => e = lost ∧ ∃ q, OnD w' d f base g off cap z B st q ∧ Dst d f w st.v w' st.v := by
 obtain ⟨c0, _, _, c3, c4, c5, _⟩ := h.dec.cell
 have HH := hide h
 clear h
 go_enter Tryz.func173, Tryz.ntmps173
 go_wp2_with fail
 refine (feedNum_miss f g off cap z p 8 B w (unhide HH).feed (unhide HH).src (unhide HH).goff.f (by omega) hp hp2).mono ?_
 rintro e w1 ⟨rfl, hfed⟩
 have H1 := hide ((unhide HH).fed hfed)
 have H2 := hide (Dst.fed (d := d) (v := st.v) hfed)
 clear hfed
 go_wp2_with fail
 exact ⟨rfl, rfl, _, unhide H1, unhide H2⟩
theorem storedByte_any (d f base g off cap z : Nat) (B : List Nat) (s : GS) (v : Value) (w : World) (hH : HoldsG w d f base g off cap z B s v) (h1 : s.place = 1) :
  Calls Tryz.prog 173 #[.pointer (some ⟨d, 0, none⟩)] w fun e w' => StepP (gByte B s) d f base g off cap z B s w v e w' := by
 obtain ⟨st, rfl, hon, e1, e2, e3, e4, e5, e6, e7, e8, e9⟩ := hH.ex
 have hmu := hon.src.much
 have hsmall := e1.small e2 hH.most
 have hbits := hH.bits
 have hleft := hH.left
 have hroom := hH.room
 unfold gByte
 by_cases h0 : s.left = 0
 ·rw [if_pos h0]
  refine (storedByte_end d f base g off cap z s.p B st w hon (by omega) (by omega)).mono ?_
  rintro e w' ⟨rfl, h2, h3⟩
  exact ⟨rfl, st.v, ended_after hH rfl h2 h3 hbits e1 e2 e4 e5 e6 e7 e8, h3⟩
 ·rw [if_neg h0]
  by_cases hp : s.p + 8 ≤ 8 * B.length
  ·rw [if_pos hp]
   unfold gPut
   dsimp only
   by_cases hr : s.out.length + [numAt B s.p 8].length ≤ s.most
   ·rw [if_pos hr]
    simp only [List.length_singleton] at hr
    refine (storedByte_room d f base g off cap z s.p B st w hon hp (by omega) (by omega) hsmall (by omega)).mono ?_
    rintro e w' ⟨rfl, v', h2, h3⟩
    exact ⟨rfl, v', hH.after h2 h3 rfl ((Outs.same (st' := { st with left := st.left - 1 }) e1 rfl rfl).add v' _) (by simp only [DSt.add, List.length_append, List.length_singleton]; omega) e3 e4 (by simp only [DSt.add]; rw [e5]) e6 e7 (e8.step h3) (fun h => by rw [h1] at h; simp at h) rfl (by simp; omega) (by dsimp only; omega) hp, h3⟩
   ·rw [if_neg hr]
    simp only [List.length_singleton] at hr
    have ho : st.room = 0 := by omega
    refine (storedByte_full d f base g off cap z s.p B st w hon hp (by omega) (by omega) hsmall ho).mono ?_
    rintro e w' ⟨rfl, h2, h3⟩
    refine ⟨rfl, by omega, _, _, ?_, h2, h3⟩
    have : s.most - s.out.length = 0 := by omega
    rw [this, List.take_zero, List.append_nil]
    exact e1.same rfl rfl
  ·rw [if_neg hp]
   refine (storedByte_miss d f base g off cap z s.p B st w hon hbits (by omega) (by omega) (by omega)).mono ?_
   rintro e w' ⟨rfl, q, h2, h3⟩
   exact ⟨rfl, s.last, q, fun _ => rfl, ⟨st, rfl, h2, e1, e2, e3, e4, e5, e6, e7, e8.step h3, fun h => by rw [h1] at h; simp at h⟩, h3⟩
end Go.Proofs.YtbpahojchgpdnaaGreatDoor
