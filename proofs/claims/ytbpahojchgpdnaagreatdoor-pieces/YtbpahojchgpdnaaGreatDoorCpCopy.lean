/- Proved here: the piece that the finder's copyAt answers. -/
import Derived.Test.YtbpahojchgpdnaaGreatDoorPlaces
set_option maxRecDepth 20000
set_option maxHeartbeats 4000000
namespace Go.Proofs.YtbpahojchgpdnaaGreatDoor
open Go.RowKit Go.Shelf Go.Bel
attribute [local go_sem] Oper.semAt_some
set_option maxRecDepth 100000 in
theorem copyAt_ok (F j off cap gl ga noted q : Nat) (ys : List Nat) (L A : Nat → Int) (w : World) (h : FAt w F j off cap gl ga ys noted L A) (hn : noted ≤ q) (hq : q < ys.length) :
    Calls Tryz.prog 134 #[.pointer (some ⟨F, 0, none⟩), .int .i64 (q : Nat)] w fun e w' => ∃ (p : Pc) (L' A' : Nat → Int), e = .returned (.agg p.cells) ∧ CopyIs ys q p ∧ FAt w' F j off cap gl ga ys q L' A' ∧ Step (FS F gl ga) w w' := by
  refine (callsIn_wide (n := 3)).1 ?_
  refine callsIn_of_wp_marks Tryz.func134 rfl trivial ?_ rfl
  simp only [Tryz.ntmps134, List.size_toArray, List.length_cons, List.length_nil, Nat.reduceAdd, Nat.reduceSub, Array.replicate_succ, Array.replicate_zero, List.push_toArray, List.append_toArray, List.nil_append, List.cons_append]
  obtain ⟨R, hR⟩ : ∃ R, R = w.heap.size := ⟨_, rfl⟩
  gi_wp2
  rw [← hR]
  obtain ⟨w0, hw0⟩ : ∃ w0, w0 = (((w.alloc (.cells #[.pointer (some ⟨F, 0, none⟩)] 156)).alloc (.cells #[.int .i64 (q : Nat)] 3)).alloc (.cells #[.int .u8 0, .int .i64 0, .int .i64 0] 159)) := ⟨_, rfl⟩
  have hs0 : Step (fun _ => False) w w0 := by rw [hw0]; exact (((Step.refl _ _).alloc _).alloc _).alloc _
  have hz0 : w0.heap.size = R + 1 + 1 + 1 := by rw [hw0, hR]; simp
  have k0 : w0.heap[R]? = some (.cells #[.pointer (some ⟨F, 0, none⟩)] 156 (0, 0)) := by
    rw [hw0, hR]
    exact (Below.heap_alloc _ _ _ (by simp; omega)).trans ((Below.heap_alloc _ _ _ (by simp)).trans (heap_alloc_new _ _))
  have k1 : w0.heap[R + 1]? = some (.cells #[.int .i64 (q : Nat)] 3 (0, 0)) := by
    rw [hw0, hR]
    have h9 := heap_alloc_new (w.alloc (.cells #[.pointer (some ⟨F, 0, none⟩)] 156)) (.cells #[.int .i64 (q : Nat)] 3)
    rw [World.size_alloc] at h9
    exact (Below.heap_alloc _ _ _ (by simp)).trans h9
  have k2 : w0.heap[R + 1 + 1]? = some (.cells #[.int .u8 0, .int .i64 0, .int .i64 0] 159 (0, 0)) := by
    rw [hw0, hR]
    have h9 := heap_alloc_new ((w.alloc (.cells #[.pointer (some ⟨F, 0, none⟩)] 156)).alloc (.cells #[.int .i64 (q : Nat)] 3)) (.cells #[.int .u8 0, .int .i64 0, .int .i64 0] 159)
    rw [World.size_alloc, World.size_alloc] at h9
    exact h9
  have hF := lt_of_block h.blk
  have hgl := h.last.lt
  have hga := h.ahead.lt
  have hj : j < w.heap.size := World.block_lt_of_cell? w _ (h.lies q hq)
  rw [← hw0]
  refine ⟨trivial, (callsIn_wide.2 (note_ok F j off cap gl ga noted q ys L A w0 (h.step0 hs0) (by omega))).mono ?_⟩
  rintro e w2 ⟨rfl, ⟨n', L', A', hn1, hn2, hf2, hs2⟩⟩
  obtain rfl : q = n' := by omega
  have hfew := h.few
  have hbyte := h.byte q
  have nR : ∀ k, R ≤ k → ¬ FS F gl ga k := fun k hk y => by rcases y with y | y | y <;> omega
  have b0 := hs2.at_ k0 (nR _ (by omega))
  have b1 := hs2.at_ k1 (nR _ (by omega))
  have b2 := hs2.at_ k2 (nR _ (by omega))
  have x0 : w2.cell? ⟨R, 0, none⟩ = some (.pointer (some ⟨F, 0, none⟩)) := blk_cell b0 0 _ rfl
  have x1 : w2.cell? ⟨R + 1, 0, none⟩ = some (.int .i64 (q : Nat)) := blk_cell b1 0 _ rfl
  have x2 : w2.cell? ⟨F, 0, none⟩ = some (.slice (some ⟨j, off, none⟩) ys.length cap) := blk_cell hf2.blk 0 _ rfl
  have x3 := hf2.lies q hq
  have HB2 := hide b2
  have HB0 := hide b0
  have HB1 := hide b1
  have HS2 := hide (hs0.mono (S' := FS F gl ga) (fun _ y => y.elim) |>.trans hs2)
  have HF2 := hide hf2
  have hz2 := hs2.size
  obtain ⟨v, hv⟩ : ∃ v, v = ys[q]?.getD 0 := ⟨_, rfl⟩
  rw [← hv] at x3 hbyte
  have HV := hide hv
  obtain ⟨nn, hnn⟩ : ∃ nn, nn = ys.length := ⟨_, rfl⟩
  rw [← hnn] at x2 hq hfew
  have HNN := hide hnn
  have q0 : (0 : Int) ≤ (q : Int) := by omega
  have q1 : (q : Int) < (nn : Int) := by omega
  have z0 : R < w2.heap.size := by omega
  have z1 : R + 1 < w2.heap.size := by omega
  have z2 : R + 1 + 1 < w2.heap.size := by omega
  have zF : F < w2.heap.size := by omega
  have zj : j < w2.heap.size := by omega
  have HLT := hide (show F < w.heap.size ∧ gl < w.heap.size ∧ ga < w.heap.size ∧ j < w.heap.size from ⟨hF, hgl, hga, hj⟩)
  clear hs2 hs0 hf2 b0 b1 b2 k0 k1 k2 hw0 hv hnn hz2 hz0 hn1 hn2 h nR hF hgl hga hj
  subst hR
  gi_wp2
  gi_region
  obtain ⟨w3, hw3⟩ : ∃ w3, w3 = (w2.alloc (.cells #[.int .u8 (v : Nat), .int .i64 0, .int .i64 0] 159)).drew := ⟨_, rfl⟩
  have hz3 : w3.heap.size = w2.heap.size + 1 := by rw [hw3]; simp [World.drew]
  have hs3 : Step (fun _ => False) w2 w3 := by rw [hw3]; exact ((Step.refl _ _).alloc _).drew
  have hb3 : w3.heap[w2.heap.size]? = some (.cells #[.int .u8 (v : Nat), .int .i64 0, .int .i64 0] 159 (0, 0)) := by rw [hw3]; exact heap_alloc_new _ _
  have y0 := hs3.cell x0 (fun y => y)
  have y1 := hs3.cell x1 (fun y => y)
  have y2 := hs3.cell x2 (fun y => y)
  rw [← hw3]
  have a0 : w.heap.size < w3.heap.size := by omega
  have a1 : w.heap.size + 1 < w3.heap.size := by omega
  have aF : F < w3.heap.size := by omega
  clear hw3 x0 x1 x2 x3
  gi_wp2
  gi_region
  obtain ⟨m, hm⟩ : ∃ m, m = min 258 (nn - q) := ⟨_, rfl⟩
  have hmi : (if (nn : Int) - (q : Int) < 258 then (nn : Int) - (q : Int) else 258) = (m : Nat) := by split <;> omega
  rw [hmi]
  obtain ⟨w4, hw4⟩ : ∃ w4, w4 = (w3.alloc (.cells #[.int .i64 (m : Nat)] 3)).drew := ⟨_, rfl⟩
  have hz4 : w4.heap.size = w2.heap.size + 1 + 1 := by rw [hw4]; simp [World.drew, hz3]
  have hs4 : Step (fun _ => False) w3 w4 := by rw [hw4]; exact ((Step.refl _ _).alloc _).drew
  have hb4 : w4.heap[w2.heap.size + 1]? = some (.cells #[.int .i64 (m : Nat)] 3 (0, 0)) := by rw [hw4, ← hz3]; exact heap_alloc_new _ _
  have u0 := hs4.cell y0 (fun y => y)
  have u1 := hs4.cell y1 (fun y => y)
  rw [← hw4]
  have hm258 : m ≤ 258 := by omega
  have hmn : q + m ≤ nn := by omega
  have HM := hide hm
  clear hw4 y0 y1 y2 hmi hm
  gi_wp2_with (refine ⟨trivial, ?_⟩; gi_at_call 161; refine (places_in _ _ _ _).mono ?_; rintro e w' ⟨rfl, rfl⟩)
  obtain ⟨w5, hw5⟩ : ∃ w5, w5 = ((w4.alloc (.cells #[.pointer (some ⟨F, 0, none⟩)] 156)).alloc (.cells #[.int .i64 (q : Nat)] 3)) := ⟨_, rfl⟩
  obtain ⟨S, hS⟩ : ∃ S, S = w2.heap.size := ⟨_, rfl⟩
  have hz5 : w5.heap.size = S + 4 := by rw [hw5, hS]; simp [hz4]
  have hs5 : Step (fun _ => False) w4 w5 := by rw [hw5]; exact ((Step.refl _ _).alloc _).alloc _
  have d0 : w5.cell? ⟨S + 1 + 1, 0, none⟩ = some (.pointer (some ⟨F, 0, none⟩)) := by
    rw [hw5, hS, ← hz4]
    exact blk_cell ((Below.heap_alloc _ _ _ (by simp)).trans (heap_alloc_new _ _)) 0 _ rfl
  have d1 : w5.cell? ⟨S + 1 + 1 + 1, 0, none⟩ = some (.int .i64 (q : Nat)) := by
    rw [hw5, hS, ← hz4]
    have h9 := heap_alloc_new (w4.alloc (.cells #[.pointer (some ⟨F, 0, none⟩)] 156)) (.cells #[.int .i64 (q : Nat)] 3)
    rw [World.size_alloc] at h9
    exact blk_cell h9 0 _ rfl
  have hs25 : Step (fun _ => False) w2 w5 := (hs3.trans hs4).trans hs5
  have hf5 := (unhide HF2).step0 hs25
  have hbest := (hs4.trans hs5).at_ hb3 (fun y => y)
  have hmost := hs5.at_ hb4 (fun y => y)
  have hb0 := hs25.at_ (unhide HB0) (fun y => y)
  have hb1 := hs25.at_ (unhide HB1) (fun y => y)
  have hb2 := hs25.at_ (unhide HB2) (fun y => y)
  rw [← hS] at hbest hmost zF zj z0 z1 z2
  have hnn := unhide HNN
  have zgl := hf5.last.lt
  have zga := hf5.ahead.lt
  have z2l := (unhide HF2).last.lt
  have z2a := (unhide HF2).ahead.lt
  have hL : LoopAt w5 w.heap.size S F j off cap gl ga q m ys L' A' :=
    ⟨⟨hf5, d0, d1, ⟨by omega, by omega, by omega, by omega, by omega, by omega⟩, ⟨by omega, by omega, by omega, by omega, by omega, by omega⟩⟩,
     ⟨Step.refl _ _, by
      have e : (foldF ys q m (spots ([] : List (PlaceOf q)))).cells = #[.int .u8 (v : Nat), .int .i64 0, .int .i64 0] := by rw [unhide HV]; rfl
      rw [e]; exact hbest⟩, hb0, hb1, hmost, hz5, by omega, hm258, by omega⟩
  rw [← hw5, ← hS]
  have HB2' := hide hb2
  have HS25 := hide hs25
  have HSS := hide hS
  have hlts : F < w.heap.size ∧ gl < w.heap.size ∧ ga < w.heap.size ∧ j < w.heap.size := unhide HLT
  clear hnn hS hb0 hb1 hb2 hmost hs25 hf5 hbest hb3 hb4 d0 d1 hs5 hs4 hs3 HB0 HB1 HB2 u0 u1 hw5 a0 a1 aF HV q0 q1 zgl zga z2l z2a hz3 hz4 zF zj hmn hm258 hfew hq hbyte
  refine copy_loop _ w.heap.size S F j off cap gl ga q m ys L' A' w5 hL _ _ _ _ _ _ _ _ _ _ _ _ _ _ _ _ _ _ _ _ _ _ _ _ _ _ _ _ _ _ _ _ _ _ _ _ _ _ _ _ _ _ _ _ _ _ _ _ _ _ _ _ ?_
  intro D W hD hst hbe hpre hK
  have HF5 := hide (((unhide HF2).step0 (unhide HS25)).step hst (by obtain ⟨a1, a2, a3, a4, a5, a6⟩ := hL.hP.no; obtain ⟨l1, l2, l3, l4, l5, l6⟩ := hL.hP.lo; exact ⟨by omega, by omega, by omega, by omega⟩))
  have HSW := hide (show Step (FS F gl ga) w W from (unhide HS2).trans' (S' := fun k => k = S ∨ S + 4 ≤ k) (((unhide HS25).mono (fun _ y => y.elim)).trans hst) (fun k hk y => by omega))
  have f2 := Step.at_ hst (unhide HB2') (by omega)
  obtain ⟨pc, hpe⟩ : ∃ pc, pc = bestF ys q m (chain ys q) ⟨ys[q]?.getD 0, 0, 0⟩ := ⟨_, rfl⟩
  have hpc : CopyIs ys q pc := by
    obtain ⟨pre, hpre⟩ := hpre
    have h8 := foldF_ok (ys := ys) (q := q) (m := m) (b := ⟨ys[q]?.getD 0, 0, 0⟩) ⟨hL.most, hL.fits⟩ (spots_in pre) ⟨.inl ⟨rfl, rfl⟩, fun y => absurd rfl y⟩
    have h9 : pc = (spots pre).foldl (stepF ys q m) ⟨ys[q]?.getD 0, 0, 0⟩ := by rw [hpe, hpre]; rfl
    rw [← h9] at h8
    refine ⟨h8.1, ?_, h8.2⟩
    rw [hpe, copyF, unhide HM, unhide HNN]
  rw [← hpe] at hbe
  have hDn : D ≠ S := by omega
  rename_i Kk hKk
  have hT := copy_tail (fun e w' => ∃ (p : Pc) (L' A' : Nat → Int), e = .returned (.agg p.cells) ∧ CopyIs ys q p ∧ FAt w' F j off cap gl ga ys q L' A' ∧ Step (FS F gl ga) w w') (w.heap.size + 1 + 1) S D W pc _ _ _ hbe f2 hK (by omega) ⟨pc, L', A', rfl, hpc, ?_, ?_⟩
  · exact ⟨hKk _ _ (hT _ _ _ _ _ _ _ _ _ _ _ _ _ _ _ _ _ _ _ _ _ _ _ _ _ _ _ _ _ _ _ _ _ _ _ _ _ _ _ _ _ _ _ _ _ _ _ _ _ _ _ _ _ _ _), hKk _ _ (hT _ _ _ _ _ _ _ _ _ _ _ _ _ _ _ _ _ _ _ _ _ _ _ _ _ _ _ _ _ _ _ _ _ _ _ _ _ _ _ _ _ _ _ _ _ _ _ _ _ _ _ _ _ _ _)⟩
  · refine (unhide HF5).step (S := fun k => w.heap.size ≤ k) ?_ ⟨by omega, by omega, by omega, by omega⟩
    exact ((((Step.refl _ W).setCell (p := ⟨w.heap.size + 1 + 1, 0, none⟩) (by dsimp only; omega) _).setCell (p := ⟨w.heap.size + 1 + 1, 1, none⟩) (by dsimp only; omega) _).setCell (p := ⟨w.heap.size + 1 + 1, 2, none⟩) (by dsimp only; omega) _).grown (grownBy_putObj' _ _ _) (fun k e => by cases e; exact .inl (by omega))
  · exact ((((unhide HSW).setNew (p := ⟨w.heap.size + 1 + 1, 0, none⟩) (by dsimp only; omega) _).setNew (p := ⟨w.heap.size + 1 + 1, 1, none⟩) (by dsimp only; omega) _).setNew (p := ⟨w.heap.size + 1 + 1, 2, none⟩) (by dsimp only; omega) _).grown (grownBy_putObj' _ _ _) (fun k e => by cases e; exact .inr (by omega))
end Go.Proofs.YtbpahojchgpdnaaGreatDoor
