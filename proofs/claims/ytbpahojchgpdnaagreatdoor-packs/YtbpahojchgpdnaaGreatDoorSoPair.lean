/- Proved here: codes.paired makes parcels of two. -/
import Derived.Deep.DeepCutAuto
import Derived.Test.YtbpahojchgpdnaaGreatDoorSortB
import Derived.Test.YtbpahojchgpdnaaGreatDoorFound
set_option maxRecDepth 20000
set_option maxHeartbeats 4000000
namespace Go.Bel
theorem pairUp_append : ∀ (n : Nat) (A B : List Pa), A.length = 2 * n → pairUp (A ++ B) = pairUp A ++ pairUp B
 | 0, A, B, h => by
  have : A = [] := List.eq_nil_of_length_eq_zero (by omega)
  subst this; simp [pairUp]
 | n + 1, A, B, h => by
  match A, h with
  | x :: y :: A, h =>
   have ih := pairUp_append n A B (by simp at h; omega)
   simp only [List.cons_append, pairUp, ih]
end Go.Bel
namespace Go.Proofs.YtbpahojchgpdnaaGreatDoor
open Go.RowKit Go.Shelf Go.Lib Go.Sort Go.Bel
theorem NumsIn.pt {w : World} {g : Nat} {L : List Nat} (cap : Nat) (h : NumsIn w g 0 L) : Pt.ok w 1 ⟨.slice (some ⟨g, 0, none⟩) L.length cap, L.length, L.map fun x => .int .i64 (x : Nat)⟩ := by
 refine ⟨by simp, fun u hu => ?_, some ⟨g, 0, none⟩, cap, rfl, fun h => (by cases h), fun ad had j u hu => ?_⟩
 ·simp only [List.mem_map] at hu
  obtain ⟨x, _, rfl⟩ := hu
  rfl
 ·cases had
  have hj := (List.getElem?_eq_some_iff.1 hu).1
  rw [List.length_map] at hj
  rw [show (Addr.add ⟨g, 0, none⟩ j) = ⟨g, 0 + j, none⟩ by simp [Addr.add]; omega, h j hj, ← hu]
  unfold often
  rw [List.getElem?_map, List.getElem?_eq_getElem hj]
  rfl
theorem NumsIn.of_owns {w : World} {base g cap : Nat} {L : List Nat} (h : w.ownsRow base 3 1 (.slice (some ⟨g, 0, none⟩) L.length cap) L.length (L.map fun x => .int .i64 (x : Nat))) : L.length ≤ cap ∧ g < w.heap.size ∧ NumsIn w g 0 L := by
 have h0 := h
 obtain ⟨hl, ⟨hv, hn⟩ | ⟨g', cap', cur, hv, hg, hh, hnc, hcm, hsz, ht⟩⟩ := h
 ·cases hv
 ·cases hv
  refine ⟨hnc, lt_of_block hh, fun i hi => ?_⟩
  rw [Nat.zero_add]
  have := h0.cells rfl i (.int .i64 (often L i : Nat)) (by rw [List.getElem?_map, List.getElem?_eq_getElem hi]; simp [often, hi])
  rw [show (Addr.add ⟨g, 0, none⟩ i) = ⟨g, i, none⟩ by simp [Addr.add]; omega] at this
  exact this
theorem concat2 (pg pk qg qk : Nat) (xs ys : List Nat) (W0 : World) (t : TypeId) (hx : NumsIn W0 pg 0 xs) (hy : NumsIn W0 qg 0 ys) (h1 : 1 ≤ xs.length) (h2 : xs.length + ys.length ≤ 1000000) :
  Calls Tryz.prog 132 #[.slice (some ⟨W0.heap.size, 0, none⟩) 2 2] (W0.alloc (.cells #[.slice (some ⟨pg, 0, none⟩) xs.length pk, .slice (some ⟨qg, 0, none⟩) ys.length qk] t)) fun e w' =>
   ∃ c', e = .returned (.slice (some ⟨W0.heap.size + 1, 0, none⟩) (xs.length + ys.length) c') ∧ xs.length + ys.length ≤ c' ∧ W0.heap.size + 1 < w'.heap.size ∧ NumsIn w' (W0.heap.size + 1) 0 (xs ++ ys) ∧ Step (fun _ => False) W0 w' := by
 have hst0 : Step (fun _ => False) W0 (W0.alloc (.cells #[.slice (some ⟨pg, 0, none⟩) xs.length pk, .slice (some ⟨qg, 0, none⟩) ys.length qk] t)) := (Step.refl _ _).alloc _
 have hsum : sumM [⟨.slice (some ⟨pg, 0, none⟩) xs.length pk, xs.length, xs.map fun x => .int .i64 (x : Nat)⟩, ⟨.slice (some ⟨qg, 0, none⟩) ys.length qk, ys.length, ys.map fun x => .int .i64 (x : Nat)⟩] 2 = (xs ++ ys).length := by simp [sumM]
 have hall : allM [⟨.slice (some ⟨pg, 0, none⟩) xs.length pk, xs.length, xs.map fun x => .int .i64 (x : Nat)⟩, ⟨.slice (some ⟨qg, 0, none⟩) ys.length qk, ys.length, ys.map fun x => .int .i64 (x : Nat)⟩] = (xs ++ ys).map fun x => .int .i64 (x : Nat) := by simp [allM]
 refine (concatI W0.heap.size 2 2 [⟨.slice (some ⟨pg, 0, none⟩) xs.length pk, xs.length, xs.map fun x => .int .i64 (x : Nat)⟩, ⟨.slice (some ⟨qg, 0, none⟩) ys.length qk, ys.length, ys.map fun x => .int .i64 (x : Nat)⟩] (W0.alloc _) rfl (by omega) (by omega) two_cells ?cb ?cp ?cr).mono ?_
 case cb =>
  intro r hr
  simp only [List.mem_cons, List.not_mem_nil, or_false] at hr
  rcases hr with rfl | rfl
  ·exact (hx.step hst0 (fun y => y)).pt pk
  ·exact (hy.step hst0 (fun y => y)).pt qk
 case cp => rw [hsum]; simp; omega
 case cr => rw [hsum]; simp; omega
 rintro e w' ⟨c', rfl, hown, hst⟩
 rw [hsum, hall, World.size_alloc] at hown
 obtain ⟨k1, k2, k3⟩ := NumsIn.of_owns hown
 rw [List.length_append] at k1
 exact ⟨c', by rw [hsum, World.size_alloc, List.length_append], k1, k2, k3, hst0.trans hst⟩
theorem pair_pa {l Q : List Pe} {k n m cc pn qn g c : Nat} {p q : Pe} {ss : List Nat} (h : Q.map Pe.pa = pairUp ((l.take k).map Pe.pa)) (hk : k = 2 * n) (hl : k + 1 < l.length) (hm : m = k + 1) (hx : p = atE l k ∧ q = atE l m ∧ cc = p.c + q.c ∧ p.s.length = pn ∧ q.s.length = qn) (hs : ss = p.s ++ q.s) :
  (Q ++ [(⟨cc, ss, g, c⟩ : Pe)]).map Pe.pa = pairUp ((l.take (k + 2)).map Pe.pa) := by
 obtain ⟨h1, h2, h3, _, _⟩ := hx
 have e1 : l[k]? = some p := by rw [h1]; unfold atE; rw [List.getElem?_eq_getElem (by omega)]; rfl
 have e2 : l[k + 1]? = some q := by rw [h2, hm]; unfold atE; rw [List.getElem?_eq_getElem (by omega)]; rfl
 have e3 : l.take (k + 2) = l.take k ++ [p, q] := by
  rw [show k + 2 = k + 1 + 1 by omega, List.take_add_one, List.take_add_one, e1, e2]; simp
 rw [e3, List.map_append, List.map_append, pairUp_append n _ _ (by simp; omega), h, h3, hs]
 rfl
theorem pair_end {l : List Pe} {k n : Nat} (hk : k = 2 * n) (hl : l.length ≤ k + 1) (hk2 : k ≤ l.length) : pairUp (l.map Pe.pa) = pairUp ((l.take k).map Pe.pa) := by
 have e : l.map Pe.pa = (l.take k).map Pe.pa ++ (l.drop k).map Pe.pa := by rw [← List.map_append, List.take_append_drop]
 rw [e, pairUp_append n _ _ (by simp; omega)]
 have h0 : pairUp ((l.drop k).map Pe.pa) = [] := by
  have h1 : (l.drop k).length ≤ 1 := by simp; omega
  match l.drop k, h1 with
  | [], _ => rfl
  | [x], _ => rfl
 rw [h0, List.append_nil]
theorem PRow.step {B : Nat} {w w' : World} {v : Value} {S : List Pe} (h : PRow B w v S) (hs : Step (fun _ => False) w w') : PRow B w' v S :=
 ⟨ownsRow_far h.row hs (fun _ _ y => y), fun p hp => (h.sy p hp).step hs (fun y => y), h.ne, h.lo⟩
theorem parc_cells {w' : World} {cc : Nat} {ss : List Nat} {g c n : Nat} {t : TypeId} (hn : ss.length = n) (i : Nat) (u : Value) (hu : (cellsE [⟨cc, ss, g, c⟩])[i]? = some u) :
  (w'.alloc (.cells #[.int .i64 (cc : Nat), .slice (some ⟨g, 0, none⟩) n c] t)).cell? (Addr.add ⟨w'.heap.size, 0, none⟩ i) = some u := by
 subst hn
 rw [show (Addr.add ⟨w'.heap.size, 0, none⟩ i) = ⟨w'.heap.size, i, none⟩ by simp [Addr.add]; omega]
 exact blk_cell (heap_alloc_new _ _) i u (by rw [← hu]; simp [cellsE, Pe.v])
theorem pair_more {B cc n c' g' cap' : Nat} {w wr wc w' w5 : World} {v : Value} {Q : List Pe} {ss : List Nat} {o : Obj} (hrow : PRow B wr v Q) (h1 : Step (fun _ => False) wr wc) (h2 : Step (fun _ => False) wc w') (hk : n ≤ c') (hn : ss.length = n) (hsz : wc.heap.size + 1 < w'.heap.size) (hnum : NumsIn w' (wc.heap.size + 1) 0 ss)
  (hown : w5.ownsRow B 243 2 (.slice (some ⟨g', 0, none⟩) (Q.length + 1) cap') (Q.length + 1) (cellsE Q ++ cellsE [⟨cc, ss, wc.heap.size + 1, c'⟩])) (hgr : (w'.alloc o).grownBy w5 v.ownBlock) (hg : v.ownBlock = some g' ∨ (w'.alloc o).heap.size ≤ g') (hw : B = w.heap.size) (hst : Step (fun _ => False) w wr) :
  Hid (PRow B w5 (.slice (some ⟨g', 0, none⟩) (Q.length + 1) cap') (Q ++ [⟨cc, ss, wc.heap.size + 1, c'⟩])) ∧ Hid (Step (fun _ => False) w w5) ∧ wr.heap.size ≤ w5.heap.size := by
 have hs4 : Step (fun _ => False) wc (w'.alloc o) := h2.alloc _
 have hsy : SyAt (w'.alloc o) ⟨cc, ss, wc.heap.size + 1, c'⟩ := by
  refine ⟨by rw [hn]; exact hk, by simp; omega, fun j x hx => ?_⟩
  have hj := (List.getElem?_eq_some_iff.1 hx).1
  have h9 := (hnum.step ((Step.refl (fun _ => False) w').alloc o) (fun y => y)) j hj
  rw [Nat.zero_add] at h9
  have e : often ss j = x := by unfold often; rw [hx]; rfl
  rw [e] at h9
  exact h9
 refine ⟨(hrow.step h1).more (by have := hst.size; have := h1.size; omega) hs4 hsy (by simp) hown hgr hg, ?_, ?_⟩
 ·exact ((hst.trans h1).trans hs4).grown hgr (fun k e => .inr (by have := (hrow.row.lt k e).1; omega))
 ·have := h1.size; have := hs4.size; have := hgr.size; omega
set_option maxHeartbeats 12000000 in
theorem paired_some (g cap : Nat) (l : List Pe) (w : World) (h : PesAt w g l) (hg : g < w.heap.size) (hsy : ∀ p ∈ l, SyAt w p) (hl : l.length ≤ 100000) (hc : ∀ p ∈ l, p.c ≤ 1000000000000 ∧ 1 ≤ p.s.length ∧ p.s.length ≤ 100000) :
    Calls Tryz.prog 198 #[.slice (some ⟨g, 0, none⟩) l.length cap] w fun e w' => ∃ v Q, e = .returned v ∧ PRow w.heap.size w' v Q ∧ Q.map Pe.pa = pairUp (l.map Pe.pa) ∧ Step (fun _ => False) w w' := by
  have mixed : Tryz.prog.follows .mixedOrders = true := by kernel_rfl
  obtain ⟨i0, hi, hz0, hz1, hz2'⟩ := info_parts infoPa
  obtain ⟨B, hB⟩ : ∃ B, B = w.heap.size := ⟨_, rfl⟩
  rw [← hB]
  have HB := hide hB
  have HI := hide h
  have HSY := hide hsy
  have HCB := hide hc
  clear h hB hsy hc
  go_enter Tryz.func198, Tryz.ntmps198
  go_wp2_with fail
  go_loopg [3, 4] l.length (fun kx u3 u4 wr => ∃ (k n : Nat) (v : Value) (Q : List Pe), u4 = .int .i64 (k : Nat) ∧ u3 = v ∧ k = 2 * n ∧ k ≤ l.length ∧ kx = l.length - k ∧ Hid (PRow B wr v Q) ∧ Hid (Q.map Pe.pa = pairUp ((l.take k).map Pe.pa)) ∧ B ≤ wr.heap.size ∧ Hid (Step (fun _ => False) w wr))
  case atStart => exact ⟨0, 0, _, [], rfl, rfl, by omega, by omega, rfl, PRow.nil _ _, rfl, by have := unhide HB; omega, Step.refl _ _⟩
  case round =>
    obtain ⟨k, n, v, Q, rfl, rfl, hkn, hk, hkx, HROW, HPA, hBw, HST⟩ := hrel
    by_cases hlt : k + 1 < l.length
    · have hltz : (k : Int) + 1 < (l.length : Int) := by omega
      have hat := (unhide HI).step (unhide HST) (fun y => y) hg
      obtain ⟨a0, a1, _, _⟩ := hat k (by omega)
      obtain ⟨m, hm⟩ : ∃ m, m = k + 1 := ⟨_, rfl⟩
      obtain ⟨b0, b1, _, _⟩ := hat m (by omega)
      obtain ⟨p, hp⟩ : ∃ p, p = atE l k := ⟨_, rfl⟩
      obtain ⟨q, hq⟩ : ∃ q, q = atE l m := ⟨_, rfl⟩
      rw [← hp] at a0 a1
      rw [← hq] at b0 b1
      have e0 : ((k : Int)).toNat = k := by omega
      have e1 : ((m : Int)).toNat = m := by omega
      have rm : IntKind.i64.wrap ((k : Int) + 1) = (m : Int) := by rw [IntKind.wrap_i64]; omega
      have z0 : (0 : Int) ≤ (k : Int) := by omega
      have z1 : (k : Int) < (l.length : Int) := by omega
      have z2 : (0 : Int) ≤ (m : Int) := by omega
      have z3 : (m : Int) < (l.length : Int) := by omega
      have hgw : g < wr.heap.size := by have := (unhide HST).size; omega
      have hgw1 : ¬ g = wr.heap.size := by omega
      have hgw2 : ¬ g = wr.heap.size + 1 := by omega
      have hgw3 : g < wr.heap.size + 1 := by omega
      have HM := hide hm
      clear hm
      have HK := hide hkn
      clear hkn hat
      obtain ⟨pg, pk, pn, pc, hpv, hpc⟩ : ∃ (g k n : Nat) (c : Int), p.v = .slice (some ⟨g, 0, none⟩) n k ∧ (p.c : Int) = c := ⟨p.g, p.cap, p.s.length, _, rfl, rfl⟩
      obtain ⟨qg, qk, qn, qc, hqv, hqc⟩ : ∃ (g k n : Nat) (c : Int), q.v = .slice (some ⟨g, 0, none⟩) n k ∧ (q.c : Int) = c := ⟨q.g, q.cap, q.s.length, _, rfl, rfl⟩
      rw [hpc] at a0
      rw [hpv] at a1
      rw [hqc] at b0
      rw [hqv] at b1
      go_upto_region 5 with fail
      go_cut [5, 6] (fun s5 s6 wd => ∃ A D : Nat, s5 = .pointer (some ⟨A, 0, none⟩) ∧ s6 = .pointer (some ⟨D, 0, none⟩) ∧ wd.heap[A]? = some (.cells #[.int .i64 pc, .slice (some ⟨pg, 0, none⟩) pn pk] 243 (0, 0)) ∧ wd.heap[D]? = some (.cells #[.int .i64 qc, .slice (some ⟨qg, 0, none⟩) qn qk] 243 (0, 0)) ∧ Step (fun _ => False) wr wd)
      case first =>
        go_big_region_o
        · go_wp2_with fail
          go_meet
          case rel => exact ⟨wr.heap.size, wr.heap.size + 1, rfl, rfl, (Below.heap_alloc _ _ _ (by simp)).trans (heap_alloc_new _ _), by have := heap_alloc_new (wr.alloc (.cells #[.int .i64 pc, .slice (some ⟨pg, 0, none⟩) pn pk] 243)) (.cells #[.int .i64 qc, .slice (some ⟨qg, 0, none⟩) qn qk] 243); rw [World.size_alloc] at this; exact this, (((Step.refl _ _).alloc _).alloc _).drew⟩
        · go_wp2_with fail
          go_meet
          case rel => exact ⟨wr.heap.size + 1, wr.heap.size, rfl, rfl, by have := heap_alloc_new (wr.alloc (.cells #[.int .i64 qc, .slice (some ⟨qg, 0, none⟩) qn qk] 243)) (.cells #[.int .i64 pc, .slice (some ⟨pg, 0, none⟩) pn pk] 243); rw [World.size_alloc] at this; exact this, (Below.heap_alloc _ _ _ (by simp)).trans (heap_alloc_new _ _), (((Step.refl _ _).alloc _).alloc _).drew⟩
      case rest =>
        obtain ⟨A, D, rfl, rfl, hA, hD, hsc⟩ := hcut
        have cA0 := blk_cell hA 0 _ rfl
        have cA1 := blk_cell hA 1 _ rfl
        have cD0 := blk_cell hD 0 _ rfl
        have cD1 := blk_cell hD 1 _ rfl
        have lA := lt_of_block hA
        have lD := lt_of_block hD
        have HSC := hide hsc
        have sp := (unhide HSY p (hp ▸ atE_mem (by omega))).step ((unhide HST).trans hsc) (fun y => y)
        have sq := (unhide HSY q (hq ▸ atE_mem (by omega))).step ((unhide HST).trans hsc) (fun y => y)
        obtain ⟨x1, x2, x3⟩ := unhide HCB p (hp ▸ atE_mem (by omega))
        obtain ⟨y1, y2, y3⟩ := unhide HCB q (hq ▸ atE_mem (by omega))
        have hcc : ∀ t, Calls Tryz.prog 132 #[.slice (some ⟨wc.heap.size, 0, none⟩) 2 2] (wc.alloc (.cells #[.slice (some ⟨p.g, 0, none⟩) p.s.length p.cap, .slice (some ⟨q.g, 0, none⟩) q.s.length q.cap] t)).drew fun e w' =>
            ∃ c', e = .returned (.slice (some ⟨wc.heap.size + 1, 0, none⟩) (p.s.length + q.s.length) c') ∧ p.s.length + q.s.length ≤ c' ∧ wc.heap.size + 1 < w'.heap.size ∧ NumsIn w' (wc.heap.size + 1) 0 (p.s ++ q.s) ∧ Step (fun _ => False) wc w' := fun t => by
          refine (concat2 p.g p.cap q.g q.cap p.s q.s wc.drew t (sp.nums) (sq.nums) x2 (by omega)).mono ?_
          rintro e w' ⟨c', h1, h2, h3, h4, h5⟩
          exact ⟨c', h1, h2, h3, h4, ((Step.refl (fun _ => False) wc).drew).trans h5⟩
        have hpvv : p.v = .slice (some ⟨p.g, 0, none⟩) p.s.length p.cap := rfl
        have hqvv : q.v = .slice (some ⟨q.g, 0, none⟩) q.s.length q.cap := rfl
        rw [hpvv] at hpv
        rw [hqvv] at hqv
        cases hpv
        cases hqv
        obtain ⟨pn, hpn⟩ : ∃ n, p.s.length = n := ⟨_, rfl⟩
        obtain ⟨qn, hqn⟩ : ∃ n, q.s.length = n := ⟨_, rfl⟩
        rw [hpn] at hcc cA1
        rw [hqn] at hcc cD1
        have HCC := hide hcc
        have hpb : pc ≤ 1000000000000 ∧ 0 ≤ pc := by omega
        have hqb : qc ≤ 1000000000000 ∧ 0 ≤ qc := by omega
        obtain ⟨hpb1, hpb2⟩ := hpb
        obtain ⟨hqb1, hqb2⟩ := hqb
        obtain ⟨cc, hcd⟩ : ∃ cc : Nat, cc = p.c + q.c := ⟨_, rfl⟩
        have hwr : IntKind.i64.wrap (pc + qc) = (cc : Int) := by rw [IntKind.wrap_i64]; omega
        have HPQ := hide (And.intro hp (And.intro hq (And.intro hcd (And.intro hpn hqn))))
        have hql : Q.length ≤ k := by
          have h1 := congrArg List.length (unhide HPA)
          have h2 := pairUp_length ((l.take k).map Pe.pa)
          simp only [List.length_map, List.length_take] at h1 h2
          omega
        have hwl : wr.heap.size ≤ wc.heap.size := hsc.size
        have hmx : Q.length + 1 ≤ maxLen := by unfold maxLen; omega
        clear hsc hA hD a0 a1 b0 b1 hcc sp sq x1 x2 x3 y1 y2 y3 hp hq hpc hqc hpn hqn hpvv hqvv hcd
        obtain ⟨ss, hss⟩ : ∃ ss, ss = p.s ++ q.s := ⟨_, rfl⟩
        rw [← hss] at HCC
        have hsl : ss.length = pn + qn := by
          obtain ⟨_, _, _, h1, h2⟩ := unhide HPQ
          rw [hss, List.length_append, h1, h2]
        have HSS := hide hss
        have HSL := hide hsl
        clear hss hsl
        go_upto_region 6 with fail
        go_region_law (first
          | (refine step_append_row rfl (.tmp 23) (.tmp 36) 240 rfl B 243 i0 _ 2 32 underPa hi hz0 hz1 hz2' rfl (by decide) u3 Q.length (cellsE Q) (by simp [Act.eval]) (R'.alloc _) ⟨w'.heap.size, 0, none⟩ 1 1 (cellsE [⟨cc, ss, wc.heap.size + 1, c'⟩]) (by simp [Act.eval]) rfl ?c1 (cellsE_one _) (by decide) ?c3 ?c4 ?c5 ?_
             case c1 => exact parc_cells (unhide HSL)
             case c3 => exact hmx
             case c4 => omega
             case c5 => simp; omega
             intro g' cap' w5 hown hgr hg4
             have n9 := pair_more (unhide HROW) (unhide HSC) (unhide K4) k1 (unhide HSL) k2 (unhide K3) hown hgr hg4 (unhide HB) (unhide HST)
             obtain ⟨N1, S5, Z5⟩ := n9
             clear hown hgr hg4 R' K3 K4 k1 k2 cA0' cA1' cD0' cD1')
          | (go_simp; go_at_call 132; refine (unhide HCC _).mono ?_; rintro e w' ⟨c', rfl, k1, k2, k3, k4⟩; have cA0' := k4.cell cA0 (fun y => y); have cA1' := k4.cell cA1 (fun y => y); have cD0' := k4.cell cD0 (fun y => y); have cD1' := k4.cell cD1 (fun y => y); have R' := ownsRow_far (unhide HROW).row ((unhide HSC).trans k4) (fun _ _ y => y); have K3 := hide k3; have K4 := hide k4; clear k3 k4))
        all_goals
          go_wp2_with fail
          go_roundg (l.length - (k + 2))
          case measure => omega
          case rel =>
            refine ⟨k + 2, n + 1, _, Q ++ [⟨cc, ss, wc.heap.size + 1, c'⟩], by go_num, rfl, by have := unhide HK; omega, by have := unhide HM; omega, rfl, ?_, ?_, by omega, S5⟩
            · exact N1
            · exact pair_pa (unhide HPA) (unhide HK) (by have := unhide HM; omega) (unhide HM) (unhide HPQ) (unhide HSS)
    · have hltz : ¬ (k : Int) + 1 < (l.length : Int) := by omega
      have hfin : Q.map Pe.pa = pairUp (l.map Pe.pa) := by
        rw [unhide HPA]
        exact (pair_end hkn (by omega) hk).symm
      have HF := hide hfin
      clear hfin HPA hkn
      go_wp2_with fail
      go_ret
      exact ⟨_, rfl, Q, unhide HROW, unhide HF, unhide HST⟩
theorem paired_nil (w : World) : Calls Tryz.prog 198 #[.slice none 0 0] w fun e w' => e = .returned (.slice none 0 0) ∧ Step (fun _ => False) w w' := by
 go_enter Tryz.func198, Tryz.ntmps198
 go_wp2_with fail
 go_loopg [3, 4] 0 (fun kx u3 u4 wr => u3 = .slice none 0 0 ∧ u4 = .int .i64 0 ∧ Step (fun _ => False) w wr)
 case atStart => exact ⟨rfl, rfl, Step.refl _ _⟩
 case round =>
  obtain ⟨rfl, rfl, hst⟩ := hrel
  go_wp2_with fail
  go_ret
  exact ⟨rfl, hst⟩
theorem paired_ok (v : Value) (l : List Pe) (w : World) (h : PesIn w v l) (hsy : ∀ p ∈ l, SyAt w p) (hl : l.length ≤ 100000) (hc : ∀ p ∈ l, p.c ≤ 1000000000000 ∧ 1 ≤ p.s.length ∧ p.s.length ≤ 100000) :
  Calls Tryz.prog 198 #[v] w fun e w' => ∃ v' Q, e = .returned v' ∧ PRow w.heap.size w' v' Q ∧ Q.map Pe.pa = pairUp (l.map Pe.pa) ∧ Step (fun _ => False) w w' := by
 rcases h with ⟨rfl, rfl⟩ | ⟨g, cap, rfl, h2, h3, h4⟩
 ·refine (paired_nil w).mono ?_
  rintro e w' ⟨rfl, hs⟩
  exact ⟨_, [], rfl, PRow.nil _ _, rfl, hs⟩
 ·exact paired_some g cap l w h4 h3 hsy hl hc
end Go.Proofs.YtbpahojchgpdnaaGreatDoor
