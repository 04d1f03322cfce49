/- Proved here: what the decoder's take and Run do, whatever the bits are. -/
import Derived.Lib.Slices
import Derived.Test.YtbpahojchgpdnaaGreatDoorSteps
set_option maxRecDepth 20000
set_option maxHeartbeats 4000000
namespace Go.Proofs.YtbpahojchgpdnaaGreatDoor
open Go.RowKit Go.Bel Go.Maps
def Taken (w : World) (base : Nat) (v : Value) (ys : List Nat) : Prop := w.ownsRow base 5 1 v ys.length (u8s ys)
theorem Taken.step {S : Nat → Prop} {w w' : World} {base : Nat} {v : Value} {ys : List Nat} (h : Taken w base v ys) (hs : Step S w w') (hn : ∀ k, base ≤ k → ¬ S k) : Taken w' base v ys :=
 ownsRow_of_block h fun k hk => hs.block k (h.lt k hk).2 (hn k (h.lt k hk).1)
theorem Taken.mono {w : World} {base base' : Nat} {v : Value} {ys : List Nat} (h : Taken w base v ys) (hb : base' ≤ base) : Taken w base' v ys := ownsRow_mono h hb
theorem Taken.slice {w : World} {base : Nat} {v : Value} {ys : List Nat} (h : Taken w base v ys) : ∃ a c, v = .slice a ys.length c := by
 obtain ⟨_, ⟨hv, hn⟩ | ⟨g, cap, _, hv, _⟩⟩ := h
 ·exact ⟨none, 0, by rw [hv, hn]⟩
 ·exact ⟨_, _, hv⟩
def keptOf (out : List Nat) : List Nat := if 65536 < out.length then out.drop (out.length - 32768) else out
theorem Outs.take {st : DSt} {taken : Nat} {out : List Nat} (h : Outs st taken out) (v : Value) : Outs { st with v := v, out := keptOf st.out, fresh := 0 } out.length out := by
 obtain ⟨old, h1, h2⟩ := h.old
 refine ⟨?_, by simp, Nat.zero_le _⟩
 unfold keptOf
 dsimp only
 split
 ·rename_i hx
  refine ⟨old ++ st.out.take (st.out.length - 32768), by rw [List.append_assoc, List.take_append_drop]; exact h1, .inr (by rw [List.length_drop]; omega)⟩
 ·exact ⟨old, h1, h2⟩
theorem outs_fresh {st : DSt} {taken : Nat} {out : List Nat} (h : Outs st taken out) : st.out.drop (st.out.length - st.fresh) = out.drop taken := by
 obtain ⟨old, h1, h2⟩ := h.old
 have h3 := h.fresh
 have h4 := h.kept
 have h5 : out.length = old.length + st.out.length := by rw [h1, List.length_append]
 have h6 : taken = old.length + (st.out.length - st.fresh) := by omega
 rw [h6, h1, List.drop_append]
 simp
structure RunP (d f base g off cap z e : Nat) (B : List Nat) (out : List Nat) (q : Nat) (v : Value) (S : Nat → Prop) (w w' : World) : Prop where
 ex : ∃ st q', Outs st out.length out ∧ (e = 0 → q' = q ∧ q ≤ 8 * B.length) ∧ OnD w' d f base g off cap z B st q' ∧ Step (fun k => S k ∨ k = d ∨ k = f ∨ v.ownBlock = some k) w w' ∧ (∀ k, st.v.ownBlock = some k → v.ownBlock = some k ∨ w.heap.size ≤ k)
theorem lies_drop {w : World} {k off : Nat} {xs : List Nat} (h : Lies w k off xs) (r : Nat) : Lies w k (off + r) (xs.drop r) := fun i hi => by
 rw [List.length_drop] at hi
 have h1 := h (r + i) (by omega)
 rw [List.getElem?_drop, Nat.add_assoc]
 exact h1
theorem eqlNil (w : World) (a : Option Addr) (n c n' c' : Nat) : (binOp .eql 31 (.slice a n c) (.slice none n' c')).run Tryz.prog w = .ok (.bool a.isNone) w := Lib.run_eql_slice_nil w _ _ a n c n' c' Tryz.underlying31
theorem clone_nil (w : World) : Calls Tryz.prog 110 #[.slice none 0 0] w fun e w' => e = .returned (.slice none 0 0) ∧ w' = w := by
 have hq := eqlNil
 go_enter Tryz.func110, Tryz.ntmps110
 go_wp2
 go_ret
 exact ⟨rfl, rfl⟩
theorem clone_any (k off n cap : Nat) (ys : List Nat) (w : World) (hl : Lies w k off ys) (hn : ys.length = n) (hb : n ≤ 4000000) :
  Calls Tryz.prog 110 #[.slice (some ⟨k, off, none⟩) n cap] w fun e w' => ∃ v, e = .returned v ∧ Taken w' w.heap.size v ys ∧ Step (fun _ => False) w w' := by
 obtain ⟨i0, hi, hz0, hz1, hz2⟩ := info_parts Tryz.info5
 have hul : (u8s ys).length = n * 1 := by simp [hn]
 have hnews := fun o => (hl.step ((Step.refl (fun _ => False) w).alloc o) (fun x => x)).news
 have hq := eqlNil
 have HN := hide hn
 have HNW := hide hnews
 clear hn hl hnews
 go_enter Tryz.func110, Tryz.ntmps110
 go_wp2_with (at_builtin; refine wpList_append_own _ rfl _ _ 31 rfl w.heap.size 5 i0 (.int .u8 0) 1 1 Tryz.underlying31 hi hz0 hz1 hz2 rfl (by decide) _ _ _ rfl (World.ownsRow_made w #[] 0 (Nat.le_refl _) (Nat.zero_le _) rfl) ⟨k, off, none⟩ n cap (u8s ys) rfl hul (unhide HNW _) (u8s_one ys) (by unfold maxLen; omega) (by omega) (by simp) ?_)
 intro v' w1 hown hgrow hnil
 go_wp2
 go_ret
 refine ⟨v', rfl, ?_, ((Step.refl (fun _ => False) w).alloc _).grown hgrow (fun j hj => .inr ?_)⟩
 ·unfold Taken
  rw [unhide HN]
  exact hown
 ·simp only [Value.ownBlock, Option.some.injEq] at hj
  omega
def Apart (v v' : Value) : Prop := ∀ j, v.ownBlock = some j → v'.ownBlock ≠ some j
def takenSt (st : DSt) (v : Value) : DSt := { st with v := v, out := keptOf st.out, fresh := 0 }
theorem take_end {w w1 w2 w4 : World} {d f base n : Nat} {st : DSt} {v v' : Value} {ys : List Nat} (h : Dec w d f base st) (hs1 : Step (fun _ => False) w w1) (hs2 : Step (· = d) w1 w2) (hs4 : Step (fun _ => False) w2 w4) (hd4 : Dec w4 d f base { st with fresh := 0 }) (hn : st.out.length = n) (hgt : 65536 < n) (ht : Taken w1 w.heap.size v ys) (ht4 : Taken w4 w2.heap.size v' (st.out.drop (n - 32768))) :
  Taken (w4.setCell ⟨d, 1, none⟩ v') w.heap.size v ys ∧ Dec (w4.setCell ⟨d, 1, none⟩ v') d f base (takenSt st v') ∧ Wrt d w st.v (w4.setCell ⟨d, 1, none⟩ v') v' ∧ Apart v v' := by
 have hd := h.dbase
 have hb := h.base_le
 have hz1 := hs1.size
 have hz2 := hs2.size
 have hs5 : Step (· = d) w4 (w4.setCell ⟨d, 1, none⟩ v') := (Step.refl (· = d) w4).setCell (p := ⟨d, 1, none⟩) rfl _
 have e1 : keptOf st.out = st.out.drop (n - 32768) := by unfold keptOf; rw [hn, if_pos hgt]
 refine ⟨((ht.step hs2 (fun k hk x => by omega)).step hs4 (fun _ _ x => x)).step hs5 (fun k hk x => by omega), ⟨?_, ?_, h.dbase, h.fbase, h.ne, ?_⟩, ⟨?_, ?_⟩, fun j hj hj' => by have := (ht.lt j hj).2; have := (ht4.lt j hj').1; omega⟩
 ·have h9 := blk_set hd4.blk 1 v'
  have e2 : (DSt.cells f { st with fresh := 0 }).set! 1 v' = DSt.cells f (takenSt st v') := by simp [DSt.cells, takenSt]
  rw [e2] at h9
  exact h9
 ·show World.ownsRow _ base _ 1 v' (keptOf st.out).length (u8s (keptOf st.out))
  rw [e1]
  exact ownsRow_mono (ht4.step hs5 (fun k hk x => by omega)) (by omega)
 ·have := hs4.size
  simp [World.setCell]
  omega
 ·exact (((hs1.mono (fun _ x => x.elim)).trans (hs2.mono (fun _ x => .inl x))).trans (hs4.mono (fun _ x => x.elim))).setCell (p := ⟨d, 1, none⟩) (.inl rfl) _
 ·intro k hk
  have := (ht4.lt k hk).1
  exact .inr (by omega)
theorem take_some (d f base g n vcap fr : Nat) (st : DSt) (w : World) (h : Dec w d f base st) (hk : st.out.length ≤ 1048576) (hv : st.v = .slice (some ⟨g, 0, none⟩) n vcap) (hn : st.out.length = n) (hfr : st.fresh = fr) (hf : fr ≤ n) (hcap : n ≤ vcap) (hcm : vcap ≤ 9223372036854775807) (hl : Lies w g 0 st.out) :
  Calls Tryz.prog 118 #[.pointer (some ⟨d, 1, none⟩)] w
   fun e w' => ∃ v v', e = .returned v ∧ Taken w' w.heap.size v (st.out.drop (n - fr)) ∧ Dec w' d f base (takenSt st v') ∧ Wrt d w st.v w' v' ∧ Apart v v' := by
 obtain ⟨_, c1, _, _, _, _, _, _, _, _, _, c2⟩ := h.cell
 rw [hv] at c1
 rw [hfr] at c2
 have hno := hk
 rw [hn] at hno
 have hlen : (st.out.drop (n - fr)).length = fr := by rw [List.length_drop, hn]; omega
 have hld := lies_drop hl (n - fr)
 rw [Nat.zero_add] at hld
 obtain ⟨lo, hlo⟩ : ∃ lo, lo = n - fr := ⟨_, rfl⟩
 rw [← hlo] at hlen hld ⊢
 obtain ⟨ys, hys⟩ : ∃ ys, ys = st.out.drop lo := ⟨_, rfl⟩
 rw [← hys] at hlen hld ⊢
 have hloi : IntKind.i64.wrap ((n : Int) - (fr : Int)) = (lo : Int) := by rw [IntKind.wrap_i64]; omega
 have h0i : (0 : Int) ≤ (lo : Int) := by omega
 have h1i : (lo : Int) ≤ (n : Int) := by omega
 have hfn : n - lo = fr := by omega
 have hci : (n : Int) ≤ (vcap : Int) := by omega
 have hli : (lo : Int) ≤ (vcap : Int) := by omega
 have HCL := hide (show ∀ c, Calls Tryz.prog 110 #[.slice (some ⟨g, lo, none⟩) fr c] w.drew fun e w' => ∃ v, e = .returned v ∧ Taken w' w.heap.size v ys ∧ Step (fun _ => False) w.drew w' from fun c => clone_any g lo fr c ys w.drew (hld.step ((Step.refl (fun _ => False) w).drew) (fun x => x)) hlen (by omega))
 have HCE := hide (show fr = 0 → ∀ c, Calls Tryz.prog 110 #[.slice (some ⟨g, 0, none⟩) 0 c] w.drew fun e w' => ∃ v, e = .returned v ∧ Taken w' w.heap.size v ys ∧ Step (fun _ => False) w.drew w' from fun h0 c => clone_any g 0 0 c ys w.drew (fun i hi => by omega) (by omega) (by omega))
 have HH := hide h
 have HV := hide hv
 have HN := hide hn
 have HL := hide hl
 have hkk := hk
 have HLO := hide hlo
 clear hl hld h hv hn hys hlen hk hfr hlo
 have hbig : n ≤ 65536 ∨ 65536 < n := by omega
 have HPOST := hide (show ∀ w1 v, Taken w1 w.heap.size v ys → Step (fun _ => False) w w1 → n ≤ 65536 → Taken (w1.setCell ⟨d, 2, none⟩ (.int .i64 0)) w.heap.size v ys ∧ Dec (w1.setCell ⟨d, 2, none⟩ (.int .i64 0)) d f base (takenSt st st.v) ∧ Wrt d w st.v (w1.setCell ⟨d, 2, none⟩ (.int .i64 0)) st.v ∧ Apart v st.v from fun w1 v ht hs hle => by
  have hd := (unhide HH).dbase
  have hb := (unhide HH).base_le
  have e1 : keptOf st.out = st.out := by unfold keptOf; rw [unhide HN, if_neg (by omega)]
  refine ⟨ht.step ((Step.refl (· = d) w1).setCell (p := ⟨d, 2, none⟩) rfl _) (fun k hk x => by omega), ?_, ⟨(hs.mono (fun _ x => x.elim)).setCell (p := ⟨d, 2, none⟩) (.inl rfl) _, fun _ x => .inl x⟩, fun j hj hj' => by have := (ht.lt j hj).1; have := ((unhide HH).own.lt j hj').2; omega⟩
  unfold takenSt
  rw [e1]
  exact ((unhide HH).step0 hs).set (st' := { st with fresh := 0 }) 2 (.int .i64 0) (by simp [DSt.cells]) rfl rfl)
 have hdw := (unhide HH).dbase
 have hbw := (unhide HH).base_le
 by_cases hend : vcap = lo
 ·have hlo := unhide HLO
  have hfr0 : fr = 0 := by omega
  have hnv : n = vcap := by omega
  clear hlo HLO
  subst hfr0
  subst hend
  subst hnv
  have c2 : w.cell? ⟨d, 2, none⟩ = some (.int .i64 0) := c2
  have hw0 : IntKind.i64.wrap (n : Int) = (n : Int) := by rw [IntKind.wrap_i64]; omega
  have hn0 : (0 : Int) ≤ (n : Int) := by omega
  have HCE0 := hide (unhide HCE rfl)
  clear hloi hfn h1i hli hci h0i HCE
  go_enter Tryz.func118, Tryz.ntmps118
  go_wp2_with fail
  go_region_held3 (fun w' => w'.cell? ⟨d, 1, none⟩ = some (.slice (some ⟨g, 0, none⟩) n n) ∧ w'.cell? ⟨d, 2, none⟩ = some (.int .i64 0)) (go_keep)
   (first | (go_at_call 110; refine (unhide HCE0 _).mono ?_; rintro e w1 ⟨v, rfl, htk, hs1⟩; have k1 := hs1.cell (p := ⟨d, 1, none⟩) c1 (fun x => x); have k2 := hs1.cell (p := ⟨d, 2, none⟩) c2 (fun x => x)))
  have hs01 : Step (fun _ => False) w w1 := (Step.refl (fun _ => False) w).drew.trans hs1
  have h1 := (unhide HH).step0 hs01
  have kf2 := h1.free 2
  have hsz1 := hs01.size
  have H1 := hide h1
  have HTK := hide htk
  have HS1 := hide hs01
  clear h1 htk hs01 hs1
  rcases hbig with hle | hgt
  ·have hgi : ¬ ((65536 : Int) < (n : Int)) := by omega
   go_wp2_with fail
   go_ret
   have h9 := unhide HPOST w1 v (unhide HTK) (unhide HS1) hle
   exact ⟨v, rfl, h9.1, st.v, h9.2⟩
  ·have hgi : (65536 : Int) < (n : Int) := by omega
   go_wp2_with fail
   obtain ⟨w2, hw2⟩ : ∃ w2, w2 = w1.setCell ⟨d, 2, none⟩ (.int .i64 0) := ⟨_, rfl⟩
   have hd2 : Dec w2 d f base { st with fresh := 0 } := by rw [hw2]; exact (unhide H1).set (st' := { st with fresh := 0 }) 2 (.int .i64 0) (by simp [DSt.cells]) rfl rfl
   have hs12 : Step (· = d) w1 w2 := by rw [hw2]; exact (Step.refl (· = d) w1).setCell (p := ⟨d, 2, none⟩) rfl _
   rw [← hw2]
   have hsz2 := hs12.size
   refine (window_any d f base { st with fresh := 0 } w2 hd2 hkk).mono ?_
   rintro e w3 ⟨rfl, a, rfl, hwin⟩
   obtain ⟨g', ha, hlies⟩ := hwin (by show 0 < st.out.length; rw [unhide HN]; omega)
   replace hlies : Lies w3 g' 0 st.out := hlies
   subst ha
   have emin : min ({ st with fresh := 0 } : DSt).out.length 32768 = 32768 := by show min st.out.length 32768 = 32768; rw [unhide HN]; omega
   have eoff : ({ st with fresh := 0 } : DSt).out.length - 32768 = n - 32768 := by show st.out.length - 32768 = n - 32768; rw [unhide HN]
   rw [emin, eoff]
   have hld := lies_drop hlies (n - 32768)
   rw [Nat.zero_add] at hld
   have hcl := clone_any g' (n - 32768) 32768 32768 (st.out.drop (n - 32768)) w3 hld (by rw [List.length_drop, unhide HN]; omega) (by omega)
   have HCL2 := hide hcl
   have HD2 := hide hd2
   have HS12 := hide hs12
   clear hcl hld hlies hwin emin eoff hd2 hs12 hw2
   go_wp2_with fail
   refine (unhide HCL2).mono ?_
   rintro e w4 ⟨v', rfl, htk4, hs4⟩
   have hd4 := (unhide HD2).step0 hs4
   obtain ⟨a4, c4, hv4⟩ := htk4.slice
   obtain ⟨_, q1, _⟩ := hd4.cell
   have qf1 := hd4.free 1
   have HFIN := hide (take_end (unhide HH) (unhide HS1) (unhide HS12) hs4 hd4 (unhide HN) hgt (unhide HTK) htk4)
   rw [hv4] at HFIN ⊢
   have q1' : w4.cell? ⟨d, 1, none⟩ = some (.slice (some ⟨g, 0, none⟩) n n) := q1.trans (by rw [← unhide HV])
   have hl4 : (st.out.drop (n - 32768)).length = 32768 := by rw [List.length_drop, unhide HN]; omega
   rw [hl4] at HFIN ⊢
   clear q1 hd4 htk4 hs4 hv4 hl4
   go_wp2_with fail
   go_ret
   exact ⟨v, _, rfl, unhide HFIN⟩
 ·have HEND := hide HLO
  clear HLO HEND
  go_enter Tryz.func118, Tryz.ntmps118
  go_wp2_with fail
  go_region_held3 (fun w' => w'.cell? ⟨d, 1, none⟩ = some (.slice (some ⟨g, 0, none⟩) n vcap) ∧ w'.cell? ⟨d, 2, none⟩ = some (.int .i64 (fr : Nat))) (go_keep)
   (first | (go_at_call 110; refine (unhide HCL _).mono ?_; rintro e w1 ⟨v, rfl, htk, hs1⟩; have k1 := hs1.cell (p := ⟨d, 1, none⟩) c1 (fun x => x); have k2 := hs1.cell (p := ⟨d, 2, none⟩) c2 (fun x => x)))
  have hs01 : Step (fun _ => False) w w1 := (Step.refl (fun _ => False) w).drew.trans hs1
  have h1 := (unhide HH).step0 hs01
  have kf2 := h1.free 2
  have hsz1 := hs01.size
  have H1 := hide h1
  have HTK := hide htk
  have HS1 := hide hs01
  clear h1 htk hs01 hs1
  rcases hbig with hle | hgt
  ·have hgi : ¬ ((65536 : Int) < (n : Int)) := by omega
   go_wp2_with fail
   go_ret
   have h9 := unhide HPOST w1 v (unhide HTK) (unhide HS1) hle
   exact ⟨v, rfl, h9.1, st.v, h9.2⟩
  ·have hgi : (65536 : Int) < (n : Int) := by omega
   go_wp2_with fail
   obtain ⟨w2, hw2⟩ : ∃ w2, w2 = w1.setCell ⟨d, 2, none⟩ (.int .i64 0) := ⟨_, rfl⟩
   have hd2 : Dec w2 d f base { st with fresh := 0 } := by rw [hw2]; exact (unhide H1).set (st' := { st with fresh := 0 }) 2 (.int .i64 0) (by simp [DSt.cells]) rfl rfl
   have hs12 : Step (· = d) w1 w2 := by rw [hw2]; exact (Step.refl (· = d) w1).setCell (p := ⟨d, 2, none⟩) rfl _
   rw [← hw2]
   have hsz2 := hs12.size
   refine (window_any d f base { st with fresh := 0 } w2 hd2 hkk).mono ?_
   rintro e w3 ⟨rfl, a, rfl, hwin⟩
   obtain ⟨g', ha, hlies⟩ := hwin (by show 0 < st.out.length; rw [unhide HN]; omega)
   replace hlies : Lies w3 g' 0 st.out := hlies
   subst ha
   have emin : min ({ st with fresh := 0 } : DSt).out.length 32768 = 32768 := by show min st.out.length 32768 = 32768; rw [unhide HN]; omega
   have eoff : ({ st with fresh := 0 } : DSt).out.length - 32768 = n - 32768 := by show st.out.length - 32768 = n - 32768; rw [unhide HN]
   rw [emin, eoff]
   have hld := lies_drop hlies (n - 32768)
   rw [Nat.zero_add] at hld
   have hcl := clone_any g' (n - 32768) 32768 32768 (st.out.drop (n - 32768)) w3 hld (by rw [List.length_drop, unhide HN]; omega) (by omega)
   have HCL2 := hide hcl
   have HD2 := hide hd2
   have HS12 := hide hs12
   clear hcl hld hlies hwin emin eoff hd2 hs12 hw2
   go_wp2_with fail
   refine (unhide HCL2).mono ?_
   rintro e w4 ⟨v', rfl, htk4, hs4⟩
   have hd4 := (unhide HD2).step0 hs4
   obtain ⟨a4, c4, hv4⟩ := htk4.slice
   obtain ⟨_, q1, _⟩ := hd4.cell
   have qf1 := hd4.free 1
   have HFIN := hide (take_end (unhide HH) (unhide HS1) (unhide HS12) hs4 hd4 (unhide HN) hgt (unhide HTK) htk4)
   rw [hv4] at HFIN ⊢
   have q1' : w4.cell? ⟨d, 1, none⟩ = some (.slice (some ⟨g, 0, none⟩) n vcap) := q1.trans (by rw [← unhide HV])
   have hl4 : (st.out.drop (n - 32768)).length = 32768 := by rw [List.length_drop, unhide HN]; omega
   rw [hl4] at HFIN ⊢
   clear q1 hd4 htk4 hs4 hv4 hl4
   go_wp2_with fail
   go_ret
   exact ⟨v, _, rfl, unhide HFIN⟩
theorem take_any (d f base : Nat) (st : DSt) (w : World) (h : Dec w d f base st) (hk : st.out.length ≤ 1048576) (hf : st.fresh ≤ st.out.length) :
  Calls Tryz.prog 118 #[.pointer (some ⟨d, 1, none⟩)] w
   fun e w' => ∃ v v', e = .returned v ∧ Taken w' w.heap.size v (st.out.drop (st.out.length - st.fresh)) ∧ Dec w' d f base (takenSt st v') ∧ Wrt d w st.v w' v' ∧ Apart v v' := by
 have hown := h.own
 obtain ⟨hl, ⟨hv, hn⟩ | ⟨g, vcap, cur, hv, hg, hh, hnc, hcm, hcs, htk⟩⟩ := hown
 ·obtain ⟨_, c1, _, _, _, _, _, _, _, _, _, c2⟩ := h.cell
  have f2 := h.free 2
  have hf0 : st.fresh = 0 := by omega
  rw [hv] at c1
  rw [hf0] at c2
  have ho : st.out = [] := List.eq_nil_of_length_eq_zero hn
  have HFIN := hide (show ∀ k, Dec ((w.setCell ⟨d, 2, none⟩ (.int .i64 0)).drewN k) d f base (takenSt st st.v) ∧ Wrt d w st.v ((w.setCell ⟨d, 2, none⟩ (.int .i64 0)).drewN k) st.v from fun k => by
   refine ⟨?_, ⟨((Step.refl _ w).setCell (p := ⟨d, 2, none⟩) (.inl rfl) _).drewN k, fun _ x => .inl x⟩⟩
   have e1 : keptOf st.out = st.out := by rw [ho]; rfl
   unfold takenSt
   rw [e1]
   exact (h.set (st' := { st with fresh := 0 }) 2 (.int .i64 0) (by simp [DSt.cells]) rfl rfl).other rfl (fun _ _ => rfl) (Nat.le_refl _))
  rw [ho]
  have hcl := clone_nil w.drew
  have HCL := hide hcl
  clear hcl h hk hv hn hf hf0 ho hl
  have c2' : w.cell? ⟨d, 2, none⟩ = some (.int .i64 0) := c2
  have hw0 : IntKind.i64.wrap 0 = 0 := rfl
  clear c2
  go_enter Tryz.func118, Tryz.ntmps118
  go_wp2_with fail
  go_region_held3 (fun w' => w'.cell? ⟨d, 1, none⟩ = some (.slice none 0 0) ∧ w'.cell? ⟨d, 2, none⟩ = some (.int .i64 0)) (go_keep)
   (first | (go_at_call 110; refine (unhide HCL).mono ?_; rintro e w1 ⟨rfl, rfl⟩))
  go_wp2_with fail
  go_ret
  refine ⟨_, _, rfl, ?_, (unhide HFIN 1).1, (unhide HFIN 1).2, fun j hj => by simp [Value.ownBlock] at hj⟩
  rw [List.drop_nil]
  exact World.ownsRow_nil _ _ _ _
 ·have hlies : Lies w g 0 st.out := fun i hi => by
   have h9 := h.own
   rw [hv] at h9
   have h10 := h9.cellAt i (by omega)
   rw [Nat.zero_add, h10]
   exact u8s_get _ _ hi
  exact take_some d f base g st.out.length vcap st.fresh st w h hk hv rfl rfl hf hnc (by unfold maxLen at hcm; omega) hlies
theorem takeRun_any (d f base g off cap z n e : Nat) (B : List Nat) (s : GS) (out : List Nat) (q : Nat) (v : Value) (w : World) (hH : HoldsG w d f base g off cap z B s v) (hr : GRun B n s e out q) :
  Calls Tryz.prog 74 #[.pointer (some ⟨d, 0, none⟩)] w
   fun r w' => ∃ vo, r = .returned (.tuple #[vo, .int .i64 (e : Nat)]) ∧ RunP d f base g off cap z e B out q v (fun _ => False) w w' ∧ Taken w' w.heap.size vo (out.drop s.taken) := by
 have hrun := runG_any d f base g off cap z n e B s out q v w hH hr
 have hmost := hr.most hH.room
 have hm := hH.most
 have HR := hide hrun
 clear hrun hr hH
 go_enter Tryz.func74, Tryz.ntmps74
 go_wp2_with fail
 refine (unhide HR).mono ?_
 rintro r w1 ⟨rfl, st, q', h1, h2, h3, h4⟩
 have hle := h1.le
 have htk := take_any d f base st w1 h3.dec (by omega) h1.kept
 rw [outs_fresh h1] at htk
 have HTK := hide htk
 have HFIN := hide (show ∀ w' v', Dec w' d f base (takenSt st v') → Wrt d w1 st.v w' v' → RunP d f base g off cap z e B out q v (fun _ => False) w w' from fun w' v' hd hw => by
  have hst := h4.trans (Dst.of_wrt (f := f) hw)
  exact ⟨takenSt st v', q', Outs.take h1 v', h2, h3.put hd hw, hst.step.mono (fun k hk => .inr hk), hst.own⟩)
 have hsz := h4.step.size
 clear htk h1 h2 h3 h4 hle HR
 go_wp2_with fail
 refine (unhide HTK).mono ?_
 rintro r w2 ⟨vo, v', rfl, ht, hd, hw, _⟩
 have HA := hide (unhide HFIN w2 v' hd hw)
 have HB := hide (ht.mono hsz)
 clear hd hw ht
 go_wp2_with fail
 go_ret2
 exact ⟨vo, rfl, unhide HA, unhide HB⟩
end Go.Proofs.YtbpahojchgpdnaaGreatDoor
