/- Proved here: what readRow does, whatever the bits are. -/
import Derived.Test.YtbpahojchgpdnaaGreatDoorGTimes
import Derived.RegionDies
namespace Go.Proofs.YtbpahojchgpdnaaGreatDoor
open Go.RowKit Go.Bel Go.Maps

/- a row that is read, and what else is there -/
structure RowIs (w wr : World) (f R n p mb longest : Nat) (row : List Nat) : Prop where
  own : wr.ownsRow (R + 1) 3 1 (.slice (some ⟨R + 1, 0, none⟩) row.length n) row.length (i64s row)
  fed : Fed f w wr p
  box : wr.heap[R]? = some (.cells #[.map (some mb), .int .i64 (longest : Nat)] 123 (0, 0))

theorem RowIs.fed' {w wr w2 : World} {f R n p p2 mb longest : Nat} {row : List Nat} (h : RowIs w wr f R n p mb longest row) (hf : Fed f wr w2 p2) (hRf : ¬ R = f) (hf1 : f < R + 1) : RowIs w w2 f R n p2 mb longest row :=
  ⟨ownsRow_of_block h.own (fun j hj => hf.step.block j (h.own.lt j hj).2 (fun x => by have := (h.own.lt j hj).1; omega)), h.fed.trans hf, hf.step.at_ h.box hRf⟩

theorem RowIs.last {w wr : World} {f R n p mb longest : Nat} {row : List Nat} (h : RowIs w wr f R n p mb longest row) (h0 : 0 < row.length) : wr.cell? ⟨R + 1, row.length - 1, none⟩ = some (nat (row[row.length - 1]?.getD 0)) := by
  have h9 := h.own.cellAt (row.length - 1) (by omega)
  rw [h9]
  simp [List.getElem?_eq_getElem (show row.length - 1 < row.length by omega)]

def RowP (r : R (List Nat)) (n f : Nat) (w : World) (e : Ending) (w' : World) : Prop :=
  match r with
  | .ok row q => row.length = n ∧ ∃ RB, e = .returned (.tuple #[.slice (some ⟨RB, 0, none⟩) n n, .int .i64 0]) ∧ w.heap.size ≤ RB ∧ Ints w' RB 0 row ∧ Fed f w w' q
  | .no x => e = .returned (.tuple #[.slice none 0 0, .int .i64 (x : Nat)]) ∧ ∃ q, Fed f w w' q
  | .miss => e = lost ∧ ∃ q, Fed f w w' q

theorem rSymF_no (D : Dealt) (B : List Nat) (p : Nat) : ∀ r j e, rSymF D B p r j = .no e → e = 9 := by
  intro r
  induction r with
  | zero => intro j e h; simp only [rSymF, R.no.injEq] at h; exact h.symm
  | succ r ih =>
    intro j e h
    rw [rSymF] at h
    split at h
    · split at h
      · simp at h
      · exact ih _ _ h
    · simp at h
theorem rSym_no {D : Dealt} {B : List Nat} {p e : Nat} (h : rSym D B p = .no e) : e = 9 := rSymF_no D B p _ _ _ h

theorem rLens_no {B : List Nat} {q s e : Nat} {row : List Nat} (h : rLens B q s row = .no e) : False := by
  unfold rLens at h
  split at h
  · simp at h
  · split at h
    · split at h <;> simp at h
    · split at h <;> split at h <;> simp at h

theorem rLens_le {B : List Nat} {q s : Nat} {row : List Nat} {lt : Nat × Nat} {q' : Nat} (h : rLens B q s row = .ok lt q') (hrow : ∀ i : Nat, row[i]?.getD 0 ≤ 15) : lt.1 ≤ 15 ∧ lt.2 ≤ 138 := by
  unfold rLens at h
  split at h
  · simp only [R.ok.injEq] at h; obtain ⟨rfl, rfl⟩ := h; exact ⟨by dsimp only; omega, by simp⟩
  · split at h
    · split at h
      · have := numAt_lt B q 2
        simp only [R.ok.injEq] at h; obtain ⟨rfl, rfl⟩ := h; exact ⟨hrow _, by dsimp only; omega⟩
      · simp at h
    · split at h
      · split at h
        · have := numAt_lt B q 3
          simp only [R.ok.injEq] at h; obtain ⟨rfl, rfl⟩ := h; exact ⟨by simp, by dsimp only; omega⟩
        · simp at h
      · split at h
        · have := numAt_lt B q 7
          simp only [R.ok.injEq] at h; obtain ⟨rfl, rfl⟩ := h; exact ⟨by simp, by dsimp only; omega⟩
        · simp at h

theorem getD_append_rep (row : List Nat) (t l : Nat) (hrow : ∀ i : Nat, row[i]?.getD 0 ≤ 15) (hl : l ≤ 15) : ∀ i : Nat, (row ++ List.replicate t l)[i]?.getD 0 ≤ 15 := by
  intro i
  by_cases hi : i < row.length
  · rw [List.getElem?_append_left hi]; exact hrow i
  · rw [List.getElem?_append_right (by omega)]
    by_cases h2 : i - row.length < t
    · simp [h2, hl]
    · rw [List.getElem?_eq_none (by simp; omega)]; simp

set_option maxRecDepth 20000 in
set_option maxHeartbeats 2000000 in
theorem readRow_any (f g off cap z n mb p : Nat) (D : Dealt) (B : List Nat) (w : World)
    (hF : w.heap[f]? = some (.cells #[.slice (some ⟨g, off, none⟩) B.length cap, .int .i64 (p : Nat), .int .i64 (z : Nat)] 91 (0, 0))) (hS : Src w g off B) (hgf : g ≠ f) (hT : TabAt w mb D.tab) (hmf : mb ≠ f) (hl : D.longest ≤ 15) (hp : p ≤ 8 * B.length)
    (hn4 : n ≤ 400) (hsy : ∀ c s, D.tab c = some s → s < 19) (hO : OrderAt w) (h4f : 4 ≤ f) :
    Calls Tryz.prog 213 #[.pointer (some ⟨f, 0, none⟩), .agg #[.map (some mb), .int .i64 (D.longest : Nat)], .int .i64 (n : Nat)] w
      fun e w' => RowP (rRow D B n p) n f w e w' := by
  obtain ⟨i0, hi, hz0, hz1, hz2⟩ := info_parts Tryz.info3
  have HF := hide hF
  have hflt := lt_of_block hF
  obtain ⟨res, hre⟩ : ∃ r, r = rRow D B n p := ⟨_, rfl⟩
  have HRE := hide (show rRowF D B n n p [] = res by rw [hre]; rfl)
  have HSY := hide hsy
  rw [← hre]
  clear hF hre hsy
  go_enter Tryz.func213, Tryz.ntmps213
  go_wp2_with (at_make; refine wpList_make_own _ rfl _ _ 57 rfl (w.heap.size + 1) 3 i0 (.int .i64 0) 1 Tryz.underlying57 hi hz0 hz1 .i64 .i64 _ n rfl rfl rfl (by rw [hz2]; omega) (by unfold maxLen; omega) (by simp) ?_; intro w1 hown1 hgr1)
  obtain ⟨R, hR⟩ : ∃ R, R = w.heap.size := ⟨_, rfl⟩
  have hown1' : w1.ownsRow (R + 1) 3 1 (.slice (some ⟨R + 1, 0, none⟩) 0 n) 0 (i64s []) := by
    rw [hR]; simpa using hown1
  have h0 : RowIs w w1 f R n p mb D.longest [] := by
    refine ⟨hown1', ?_, ?_⟩
    · have h1 := Fed.alloc0 (unhide HF) (.cells #[.map (some mb), .int .i64 (D.longest : Nat)] 123)
      refine ⟨h1.step.grown hgr1 (fun k hk => by cases hk), fun s x z' t hx => ?_⟩
      exact (hgr1.block f (by simp; omega) (by simp)).trans (h1.feed s x z' t hx)
    · rw [hR]; exact (hgr1.block _ (by simp) (by simp)).trans (heap_alloc_new _ _)
  have hRf : ¬ R = f := by omega
  have hRf1 : R + 1 ≠ f := by omega
  have hfR : f < R := by omega
  have hRw : w.heap.size ≤ R := by omega
  have hmR : mb < R + 1 := by have := hT.lt; omega
  have hmR2 : mb ≠ R := by have := hT.lt; omega
  rw [← hR]
  clear hown1 hown1' hgr1 hR
  go_loopw [8] (fun v wr => ∃ (row : List Nat) (k p : Nat), row.length ≤ n ∧ n ≤ row.length + k ∧ p ≤ 8 * B.length ∧ (∀ i : Nat, row[i]?.getD 0 ≤ 15) ∧ rRowF D B n k p row = res ∧ v = .slice (some ⟨R + 1, 0, none⟩) row.length n ∧ RowIs w wr f R n p mb D.longest row) (fun v _ => n - lenOfV v)
  case atStart => exact ⟨[], n, p, by simp, by simp, hp, by simp, unhide HRE, rfl, h0⟩
  case round =>
    clear h0 HRE
    obtain ⟨row, k, q, hk, hkn, hq, h15, hres, rfl, hrel⟩ := hrel
    have H15 := hide h15
    clear h15
    by_cases hlt : row.length < n
    · obtain ⟨k, rfl⟩ : ∃ j, k = j + 1 := ⟨k - 1, by omega⟩
      rw [rRowF, if_neg (by omega)] at hres
      obtain ⟨b0, b1, _, _⟩ := blk_two hrel.box
      have hrd := read_any f g off cap z q mb D B wr (hrel.fed.feed _ _ _ _ (unhide HF)) (hS.step hrel.fed.step hgf) hgf (hT.step hrel.fed.step hmf) hmf hl hq
      have HREL := hide hrel
      obtain ⟨len, hlen⟩ : ∃ l, l = row.length := ⟨_, rfl⟩
      rw [← hlen] at hk hlt ⊢
      have HLEN := hide hlen
      clear hrel hlen
      cases hs : rSym D B q with
      | no x =>
        have hx := rSym_no hs
        subst hx
        rw [hs] at hrd hres
        have HRD := hide hrd
        have HRES := hide hres
        clear hrd hres hs
        go_wp2_with fail
        refine (unhide HRD).mono ?_
        rintro e w2 ⟨rfl, q2, hfed2⟩
        have HFIN := hide ((unhide HREL).fed.trans hfed2)
        clear hfed2
        go_wp2_with fail
        go_ret2
        rw [← unhide HRES]
        exact ⟨rfl, _, unhide HFIN⟩
      | miss =>
        rw [hs] at hrd hres
        have HRD := hide hrd
        have HRES := hide hres
        clear hrd hres hs
        go_wp2_with fail
        refine (unhide HRD).mono ?_
        rintro e w2 ⟨rfl, q2, hfed2⟩
        have HFIN := hide ((unhide HREL).fed.trans hfed2)
        clear hfed2
        go_wp2_with fail
        rw [← unhide HRES]
        exact ⟨rfl, rfl, _, unhide HFIN⟩
      | ok s q1 =>
        have hso := rSym_ok hs
        rw [hs] at hrd hres
        have hs19 := unhide HSY _ _ hso.2.2.2
        have hq1 : q1 ≤ 8 * B.length := hso.2.1
        have HRD := hide hrd
        have HRES := hide hres
        clear hrd hres hs hso
        go_wp2_with fail
        refine (unhide HRD).mono ?_
        rintro e w2 ⟨rfl, hfed2⟩
        have hrel2 : RowIs w w2 f R n q1 mb D.longest row := (unhide HREL).fed' hfed2 hRf (by omega)
        have hO2 := hO.step hrel2.fed.step (fun k hk x => by omega)
        have ga := hO2.again.1
        have HO2 := hide hO2
        clear hO2
        have HREL2 := hide hrel2
        clear hfed2 HREL HRD
        by_cases h16 : s = 16 ∧ len = 0
        · obtain ⟨hs16, hl0⟩ := h16
          subst hs16
          subst hl0
          have HFIN := hide hrel2.fed
          clear hrel2
          go_wp2_with fail
          go_ret2
          have hres := unhide HRES
          rw [if_pos (by rw [← unhide HLEN]; simp)] at hres
          rw [← hres]
          exact ⟨rfl, _, unhide HFIN⟩
        · have hres := unhide HRES
          rw [if_neg (by rw [← unhide HLEN]; exact h16)] at hres
          have hll := readLengths_any f g off cap z q1 s (R + 1) n row B w2 (hrel2.fed.feed _ _ _ _ (unhide HF)) (hS.step hrel2.fed.step hgf) hgf hq1 (fun h => by
            have hl0 : 0 < row.length := by have := unhide HLEN; omega
            exact ⟨hl0, by have := unhide HLEN; omega, hrel2.last hl0⟩) hRf1 hs19 (unhide HO2) h4f
          rw [← unhide HLEN] at hll
          clear hrel2 HRES
          have hcond : ((s : Int) == 16) = false ∨ (((s : Int) == 16) = true ∧ ((len : Int) == 0) = false) := by
            by_cases e16 : s = 16
            · exact .inr ⟨beq_iff_eq.2 (by omega), beq_eq_false_iff_ne.2 (by omega)⟩
            · exact .inl (beq_eq_false_iff_ne.2 (by omega))
          clear h16
          rcases hcond with hsb | ⟨hsb, hlb⟩
          all_goals
            cases hle : rLens B q1 s row with
            | no x => exact (rLens_no hle).elim
            | miss =>
              rw [hle] at hll hres
              have HLL := hide hll
              have HRES := hide hres
              clear hll hres hle
              go_wp2_with fail
              refine (unhide HLL).mono ?_
              rintro e w3 ⟨rfl, q3, hfed3⟩
              have HFIN := hide ((unhide HREL2).fed.trans hfed3)
              clear hfed3
              go_wp2_with fail
              rw [← unhide HRES]
              exact ⟨rfl, rfl, _, unhide HFIN⟩
            | ok lt q2 =>
              have hlo := rLens_ok hle hq1
              have hl15 := rLens_le hle (unhide H15)
              rw [hle] at hll hres
              have HLL := hide hll
              have HRES := hide hres
              clear hll hres hle
              obtain ⟨l, t⟩ := lt
              dsimp only at hlo hl15
              go_wp2_with fail
              refine (unhide HLL).mono ?_
              rintro e w3 ⟨rfl, hfed3⟩
              dsimp only
              have hrel3 : RowIs w w3 f R n q2 mb D.longest row := (unhide HREL2).fed' hfed3 hRf (by omega)
              have hres := unhide HRES
              clear HREL2 hfed3 HRES HLL
              by_cases hbig : n < len + t
              · rw [if_pos (by rw [← unhide HLEN]; exact hbig)] at hres
                have HRES := hide hres
                have HFIN := hide hrel3.fed
                clear hres hrel3
                go_wp2_with fail
                go_ret2
                rw [← unhide HRES]
                exact ⟨rfl, _, unhide HFIN⟩
              · rw [if_neg (by rw [← unhide HLEN]; exact hbig)] at hres
                have HRES := hide hres
                have HREL3 := hide hrel3
                clear hres hrel3
                go_wp2_with fail
                go_loopw [8, 51] (fun v i wr => ∃ j : Nat, j ≤ t ∧ i = .int .i64 (j : Nat) ∧ v = .slice (some ⟨R + 1, 0, none⟩) (len + j) n ∧ RowIs w wr f R n q2 mb D.longest (row ++ List.replicate j l)) (fun _ i _ => t - (intOf i).toNat)
                case atStart => exact ⟨0, by omega, rfl, rfl, by simpa using unhide HREL3⟩
                case round =>
                  clear HREL3
                  obtain ⟨j, hj, rfl, rfl, hrel⟩ := hrel
                  have HREL := hide hrel
                  have elen : (row ++ List.replicate j l).length = len + j := by simp [unhide HLEN]
                  by_cases hjt : j < t
                  · have hown := hrel.own
                    rw [elen] at hown
                    have HO := hide hown
                    have HEL := hide elen
                    clear hrel hown elen
                    go_wp2_with (at_builtin; refine wpList_append_fits _ rfl _ _ 57 rfl (R + 1) 3 i0 1 Tryz.underlying57 hi hz1 (R + 1) (len + j) n (i64s (row ++ List.replicate j l)) rfl ((unhide HO).alloc _) ⟨wr.heap.size, 0, none⟩ 1 1 [.int .i64 (l : Nat)] rfl rfl ?d1 ?d2 (by omega) ?_)
                    case d1 =>
                      intro j u hj
                      match j, hj with
                      | 0, hj => simp at hj; subst hj; simp [Addr.add]
                    case d2 => intro u hu; simp at hu; subst hu; rfl
                    intro w4 hown4 hgr4
                    have hrel4 : RowIs w w4 f R n q2 mb D.longest (row ++ List.replicate (j + 1) l) := by
                      have hw := (unhide HREL)
                      have e1 : row ++ List.replicate (j + 1) l = (row ++ List.replicate j l) ++ [l] := by rw [List.append_assoc, ← List.replicate_succ']
                      refine ⟨?_, ⟨(hw.fed.step.alloc _).grown hgr4 (fun j hj => .inr (by simp at hj; omega)), fun s x z' t hx => ?_⟩, ?_⟩
                      · have e2 : i64s (row ++ List.replicate (j + 1) l) = List.map (fun c => Value.int IntKind.i64 (c : Nat)) row ++ (List.replicate j (Value.int .i64 (l : Nat)) ++ [Value.int .i64 (l : Nat)]) := by simp [i64s, List.replicate_succ']
                        have e3 : (row ++ List.replicate (j + 1) l).length = len + j + 1 := by rw [e1, List.length_append, unhide HEL]; rfl
                        rw [e2, e3]
                        exact hown4
                      · have h1 := hw.fed.feed s x z' t hx
                        exact (hgr4.block f (by have := lt_of_block h1; simp; omega) (by simp; omega)).trans ((Below.heap_alloc _ _ _ (lt_of_block h1)).trans h1)
                      · exact (hgr4.block R (by have := lt_of_block hw.box; simp; omega) (by simp)).trans ((Below.heap_alloc _ _ _ (lt_of_block hw.box)).trans hw.box)
                    have H4 := hide hrel4
                    clear hown4 hgr4 hrel4
                    go_wp2_with fail
                    go_roundw
                    case rel => exact ⟨j + 1, by omega, by go_num, by rw [Nat.add_assoc], unhide H4⟩
                    case measure => simp [intOf]; omega
                  · have hjt2 : j = t := by omega
                    subst hjt2
                    have HEL := hide elen
                    clear hrel elen
                    go_wp2_with fail
                    go_roundw
                    case rel => exact ⟨row ++ List.replicate j l, k, q2, by rw [unhide HEL]; omega, by rw [unhide HEL]; have := unhide HLEN; omega, hlo.2.1, getD_append_rep row j l (unhide H15) hl15.1, unhide HRES, by rw [unhide HEL], unhide HREL⟩
                    case measure => simp [lenOfV]; omega
    · have hlen : row.length = n := by omega
      have hr2 : res = .ok row q := by
        rw [← hres]
        cases k with
        | zero => rfl
        | succ k => rw [rRowF, if_pos (by omega)]
      have HRES := hide hr2
      have HREL := hide hrel
      have HLEN := hide hlen
      rw [hlen]
      clear hrel hres hr2 hlen hk hkn hlt
      go_wp2_with fail
      go_ret2
      rw [unhide HRES]
      refine ⟨unhide HLEN, R + 1, rfl, by omega, ⟨fun i hi' => ?_, unhide H15, by have := unhide HLEN; omega⟩, (unhide HREL).fed⟩
      have h9 := (unhide HREL).own.cellAt i (by omega)
      rw [Nat.zero_add, h9]
      simp [List.getElem?_eq_getElem hi']
end Go.Proofs.YtbpahojchgpdnaaGreatDoor
