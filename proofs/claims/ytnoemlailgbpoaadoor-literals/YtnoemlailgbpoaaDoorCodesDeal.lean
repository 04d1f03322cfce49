/- Proved here: what weigh, mayBe, deal, Deal and DealDistances do. -/
import Derived.Test.YtnoemlailgbpoaaDoorCodesRead
import Derived.Test.YtnoemlailgbpoaaDoorRows2
namespace Go.Proofs.YtnoemlailgbpoaaDoor
open Go.RowKit Go.Bel Go.Maps

set_option maxRecDepth 20000 in
set_option maxHeartbeats 400000 in
theorem weigh_any (g off cap : Nat) (L : List Nat) (w : World) (h : Ints w g off L) :
    Calls Tryd.prog 109 #[.slice (some ⟨g, off, none⟩) L.length cap] w fun e w' => e = .returned (.tuple #[.int .i64 (cntTo L L.length : Nat), .int .i64 (wgtTo L L.length : Nat)]) ∧ w' = w := by
  have hm := h.much
  go_enter Tryd.func109, Tryd.ntmps109
  go_wp2
  go_loop [2, 3, 8] (fun c x i => ∃ k : Nat, k ≤ L.length ∧ i = .int .i64 (k : Nat) ∧ c = .int .i64 (cntTo L k : Nat) ∧ x = .int .i64 (wgtTo L k : Nat)) (fun _ _ i => L.length - (intOf i).toNat)
  case atStart => exact ⟨0, by omega, rfl, rfl, rfl⟩
  case round =>
    obtain ⟨k, hk, rfl, rfl, rfl⟩ := hrel
    have h1 := cntTo_le L k
    have h2 := wgtTo_le L k
    by_cases hlt : k < L.length
    · have hc := h.cell k hlt
      have hle := h.le k
      obtain ⟨q, hq⟩ : ∃ q, q = L[k]?.getD 0 := ⟨_, rfl⟩
      rw [← hq] at hc hle
      have HQ := hide hq
      clear hq
      by_cases h0 : 0 < q
      · have hdv : 32768 / 2 ^ q ≤ 32768 := Nat.div_le_self _ _
        have hdi : ((32768 : Int) / 2 ^ q) = ((32768 / 2 ^ q : Nat) : Int) := by simp
        obtain ⟨d, hd⟩ : ∃ d, d = 32768 / 2 ^ q := ⟨_, rfl⟩
        rw [← hd] at hdi hdv
        have HD := hide hd
        clear hd
        go_wp2
        go_round
        case rel => exact ⟨k + 1, by omega, by go_num, by rw [cntTo, ← unhide HQ, if_pos h0]; go_num, by rw [wgtTo, ← unhide HQ, if_pos h0, ← unhide HD]; go_num⟩
        case measure => simp [intOf]; omega
      · go_wp2
        go_round
        case rel => exact ⟨k + 1, by omega, by go_num, by rw [cntTo, ← unhide HQ, if_neg h0]; go_num, by rw [wgtTo, ← unhide HQ, if_neg h0]; go_num⟩
        case measure => simp [intOf]; omega
    · have : k = L.length := by omega
      subst this
      go_wp2
      go_ret2
      exact ⟨rfl, rfl⟩

set_option maxRecDepth 20000 in
set_option maxHeartbeats 400000 in
theorem mayBe_any (g off cap : Nat) (L : List Nat) (w : World) (h : Ints w g off L) :
    Calls Tryd.prog 103 #[.slice (some ⟨g, off, none⟩) L.length cap] w fun e w' => e = .returned (.bool (mayB L)) ∧ w' = w := by
  have h1 := cntTo_le L L.length
  have h2 := wgtTo_le L L.length
  have hm := h.much
  have hB : mayB L = (wgtTo L L.length == 32768 || (cntTo L L.length == 1 && wgtTo L L.length == 16384)) := rfl
  have HB := hide hB
  clear hB
  go_enter Tryd.func103, Tryd.ntmps103
  go_wp2_with fail
  refine (weigh_any g off cap L w h).mono ?_
  rintro e w1 ⟨rfl, rfl⟩
  generalize cntTo L L.length = c at *
  generalize wgtTo L L.length = x at *
  by_cases e1 : x = 32768
  · have e1' : ((x : Int) == 32768) = true := beq_iff_eq.2 (by omega)
    go_wp2
    go_ret
    exact ⟨by rw [unhide HB, e1]; rfl, rfl⟩
  · have e1' : ((x : Int) == 32768) = false := beq_eq_false_iff_ne.2 (by omega)
    have e1n : (x == 32768) = false := beq_eq_false_iff_ne.2 e1
    by_cases e2 : c = 1
    · have e2' : ((c : Int) == 1) = true := beq_iff_eq.2 (by omega)
      by_cases e3 : x = 16384
      · have e3' : ((x : Int) == 16384) = true := beq_iff_eq.2 (by omega)
        go_wp2
        go_ret
        exact ⟨by rw [unhide HB, e2, e3]; rfl, rfl⟩
      · have e3' : ((x : Int) == 16384) = false := beq_eq_false_iff_ne.2 (by omega)
        have e3n : (x == 16384) = false := beq_eq_false_iff_ne.2 e3
        go_wp2
        go_ret
        exact ⟨by rw [unhide HB, e1n, e3n, e2]; rfl, rfl⟩
    · have e2' : ((c : Int) == 1) = false := beq_eq_false_iff_ne.2 (by omega)
      have e2n : (c == 1) = false := beq_eq_false_iff_ne.2 e2
      go_wp2
      go_ret
      exact ⟨by rw [unhide HB, e1n, e2n]; rfl, rfl⟩
end Go.Proofs.YtnoemlailgbpoaaDoor
