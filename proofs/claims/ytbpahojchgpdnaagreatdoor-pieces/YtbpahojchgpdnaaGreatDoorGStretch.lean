/- Proved here: what window and stretched do. -/
import Derived.Test.YtbpahojchgpdnaaGreatDoorFrame
set_option maxRecDepth 20000
set_option maxHeartbeats 4000000
namespace Go.Proofs.YtbpahojchgpdnaaGreatDoor
open Go.RowKit Go.Bel
theorem Lies.step {S : Nat → Prop} {w w' : World} {k off : Nat} {xs : List Nat} (h : Lies w k off xs) (hs : Step S w w') (hn : ¬ S k) : Lies w' k off xs := fun i hi => hs.cell (p := ⟨k, off + i, none⟩) (h i hi) hn
def round (P : List Nat) (n : Nat) : List Nat := (List.range n).map fun i => P[i % P.length]?.getD 0
theorem round_length (P : List Nat) (n : Nat) : (round P n).length = n := by simp [round]
theorem round_self (P : List Nat) : round P P.length = P := by
 apply List.ext_getElem?
 intro i
 by_cases hi : i < P.length
 ·rw [List.getElem?_eq_getElem (by simpa [round] using hi), List.getElem?_eq_getElem hi]
  simp [round, Nat.mod_eq_of_lt hi, List.getElem?_eq_getElem hi]
 ·rw [List.getElem?_eq_none (by simpa [round] using hi), List.getElem?_eq_none (by omega)]
theorem round_double (P : List Nat) (k : Nat) : round P (k * P.length) ++ round P (k * P.length) = round P (2 * k * P.length) := by
 apply List.ext_getElem?
 intro i
 have e : 2 * k * P.length = k * P.length + k * P.length := by rw [Nat.mul_assoc]; omega
 by_cases hi : i < k * P.length
 ·rw [List.getElem?_append_left (by rw [round_length]; exact hi)]
  simp [round, hi, show i < 2 * k * P.length by omega]
 ·rw [List.getElem?_append_right (by rw [round_length]; omega), round_length]
  by_cases h2 : i < 2 * k * P.length
  ·have h3 : i - k * P.length < k * P.length := by omega
   have h4 : (i - k * P.length) % P.length = i % P.length := by
    have : i = (i - k * P.length) + P.length * k := by rw [Nat.mul_comm P.length k]; omega
    conv => rhs; rw [this]
    rw [Nat.add_mul_mod_self_left]
   simp [round, h3, h2, h4]
  ·have h3 : ¬ i - k * P.length < k * P.length := by omega
   rw [List.getElem?_eq_none (by rw [round_length]; omega), List.getElem?_eq_none (by rw [round_length]; omega)]
theorem round_take (P : List Nat) (n m : Nat) (h : m ≤ n) : (round P n).take m = round P m := by
 apply List.ext_getElem?
 intro i
 by_cases hi : i < m
 ·rw [List.getElem?_take_of_lt hi]
  simp [round, hi, show i < n by omega]
 ·rw [List.getElem?_eq_none (by simp [round]; omega), List.getElem?_eq_none (by rw [round_length]; omega)]
theorem stretched_any (k off n len : Nat) (P : List Nat) (w : World) (hP : Lies w k off P) (hn : P.length = n) (hn1 : 1 ≤ n) (hn2 : n ≤ 32768) (hl1 : 1 ≤ len) (hl2 : len ≤ 300) :
  Calls Tryz.prog 203 #[.slice (some ⟨k, off, none⟩) n n, .int .i64 (len : Nat)] w
   fun e w' => ∃ k' off' cap', e = .returned (.slice (some ⟨k', off', none⟩) len cap') ∧ len ≤ cap' ∧ Lies w' k' off' (round P len) ∧ Step (fun _ => False) w w' := by
 obtain ⟨i0, hi, hz0, hz1, hz2⟩ := info_parts Tryz.info5
 have HP := hide hP
 have HN := hide hn
 clear hP hn
 go_enter Tryz.func203, Tryz.ntmps203
 go_wp2_with fail
 go_loopw [0] (fun v wr => (v = .slice (some ⟨k, off, none⟩) n n ∧ wr = w) ∨ ∃ j g cap, 1 ≤ j ∧ j * n ≤ 600 ∧ v = .slice (some ⟨g, 0, none⟩) (j * n) cap ∧ wr.ownsRow w.heap.size 5 1 v (j * n) (u8s (round P (j * n))) ∧ Step (fun _ => False) w wr) (fun v _ => len - (match v with | .slice _ m _ => m | _ => 0))
 case atStart => exact .inl ⟨rfl, rfl⟩
 case round =>
  rcases hrel with ⟨rfl, hw⟩ | ⟨j, g, cap, hj1, hj6, rfl, hown, hst⟩
  ·have hw' := hw.symm
   clear hw
   subst hw'
   by_cases hlt : n < len
   ·have hnews := (unhide HP).news
    have hul : (u8s P).length = n * 1 := by simp [unhide HN]
    go_wp2_with (at_builtin; refine wpList_append_grows _ rfl _ _ 31 rfl 5 i0 (.int .u8 0) 1 1 Tryz.underlying31 hi hz0 hz1 hz2 rfl (by decide) (some ⟨k, off, none⟩) n n (u8s P) rfl (fun h => by cases h) hul (fun b hb => by cases hb; exact hnews) ⟨k, off, none⟩ n n (u8s P) rfl hul hnews (u8s_one P) (by omega) (by unfold maxLen; omega) (by omega) ?_; intro v' w' hown hgr)
    have hst : Step (fun _ => False) w w' := (Step.refl _ w).grown hgr (fun k hk => by cases hk)
    have hown2 : w'.ownsRow w.heap.size 5 1 v' (2 * n) (u8s (round P (2 * n))) := by
     have e1 : u8s P ++ u8s P = u8s (round P (2 * n)) := by
      have h1 := round_double P 1
      rw [Nat.one_mul, round_self, Nat.mul_one, unhide HN] at h1
      rw [← h1]; simp [u8s]
     rw [← e1, show 2 * n = n + n by omega]
     exact hown
    obtain ⟨g, cap, hv⟩ : ∃ g cap, v' = .slice (some ⟨g, 0, none⟩) (2 * n) cap := by
     obtain ⟨_, ⟨_, hz⟩ | ⟨g, cap, cur, hv, _⟩⟩ := hown2
     ·omega
     ·exact ⟨g, cap, hv⟩
    subst hv
    have HO := hide hown2
    have HS := hide hst
    clear hown hown2 hgr hst hnews hul
    go_wp2_with fail
    go_roundw
    case rel => exact .inr ⟨2, g, cap, by omega, by omega, rfl, unhide HO, unhide HS⟩
    case measure => dsimp only; omega
   ·have h0i : (0 : Int) ≤ (len : Int) := by omega
    have h1i : (len : Int) ≤ (n : Int) := by omega
    have hlz : ¬ len = 0 := by omega
    go_wp2_with fail
    go_ret
    refine ⟨k, off, n, rfl, by omega, ?_, Step.refl _ _⟩
    have h1 := (unhide HP).take len
    have e : P.take len = round P len := by
     have h2 := round_take P P.length len (by have := unhide HN; omega)
     rw [round_self] at h2
     exact h2
    rw [e] at h1
    exact h1
  ·have hcap : j * n ≤ cap := by
    obtain ⟨_, ⟨hv, _⟩ | ⟨g', cap', cur, hv, _, _, hnc, _⟩⟩ := hown
    ·cases hv
    ·cases hv; exact hnc
   have hlies : Lies wr g 0 (round P (j * n)) := fun i hi => by
    rw [round_length] at hi
    have h9 := hown.cellAt i (by omega)
    rw [Nat.zero_add, h9]
    exact u8s_get _ _ (by rw [round_length]; exact hi)
   have hj0 : j * n ≥ n := Nat.le_mul_of_pos_left n hj1
   obtain ⟨m, hm⟩ : ∃ m, m = j * n := ⟨_, rfl⟩
   rw [← hm] at hcap hlies hown hj6 hj0 ⊢
   have HM := hide hm
   have HL := hide hlies
   have HO := hide hown
   have HS := hide hst
   have hsz := hst.size
   clear hm hlies hown hst
   by_cases hlt : m < len
   ·have hul : (u8s (round P m)).length = m * 1 := by simp [round_length]
    go_wp2_with (at_builtin; refine wpList_append_row _ rfl _ _ 31 rfl w.heap.size 5 i0 (.int .u8 0) 1 1 Tryz.underlying31 hi hz0 hz1 hz2 rfl (by decide) _ m (u8s (round P m)) rfl (by exact unhide HO) ⟨g, 0, none⟩ m cap (u8s (round P m)) rfl hul (by exact (unhide HL).news) (u8s_one _) (by omega) (by unfold maxLen; omega) (by omega) hsz ?_)
    intro g' cap' w' hown' hgr hg
    have hst' : Step (fun _ => False) w w' := (unhide HS).grown hgr (fun x hx => .inr ((unhide HO).lt x hx).1)
    have hown2 : w'.ownsRow w.heap.size 5 1 (.slice (some ⟨g', 0, none⟩) (2 * j * n) cap') (2 * j * n) (u8s (round P (2 * j * n))) := by
     have e1 : u8s (round P m) ++ u8s (round P m) = u8s (round P (2 * j * n)) := by
      have h1 := round_double P j
      rw [unhide HN, ← unhide HM] at h1
      rw [← h1]; simp [u8s]
     rw [← e1, show 2 * j * n = m + m by rw [Nat.mul_assoc, ← unhide HM]; omega]
     exact hown'
    have H2 := hide hown2
    have H3 := hide hst'
    have e2 : m + m = 2 * j * n := by rw [Nat.mul_assoc, ← unhide HM]; omega
    clear hown' hown2 hst' hgr hg hul
    rw [e2]
    have E2 := hide e2
    clear e2
    go_wp2_with fail
    go_roundw
    case rel => exact .inr ⟨2 * j, g', cap', by omega, by have := unhide E2; omega, rfl, unhide H2, unhide H3⟩
    case measure => dsimp only; have := unhide E2; omega
   ·have h0i : (0 : Int) ≤ (len : Int) := by omega
    have h1i : (len : Int) ≤ (cap : Int) := by omega
    have hlz : ¬ len = 0 := by omega
    go_wp2_with fail
    go_ret
    refine ⟨g, 0, cap, rfl, by omega, ?_, unhide HS⟩
    have h1 := (unhide HL).take len
    rw [round_take P m len (by omega)] at h1
    exact h1
theorem window_any (d f base : Nat) (st : DSt) (w : World) (h : Dec w d f base st) (hm : st.out.length ≤ 1048576) :
  Calls Tryz.prog 152 #[.pointer (some ⟨d, 1, none⟩)] w
   fun e w' => w' = w ∧ ∃ a, e = .returned (.slice a (min st.out.length 32768) (min st.out.length 32768)) ∧ (0 < st.out.length → ∃ g, a = some ⟨g, st.out.length - min st.out.length 32768, none⟩ ∧ Lies w g 0 st.out) := by
 obtain ⟨_, c1, _⟩ := h.cell
 obtain ⟨hl, ⟨hv, hn⟩ | ⟨g, vcap, cur, hv, hg, hh, hnc, hcm, hcs, htk⟩⟩ := h.own
 ·rw [hv] at c1
  rw [hn]
  go_enter Tryz.func152, Tryz.ntmps152
  go_wp2_with fail
  go_ret
  exact ⟨rfl, none, rfl, fun h => by omega⟩
 ·have hlies : Lies w g 0 st.out := fun i hi => by
   have h9 := h.own
   rw [hv] at h9
   have h10 := h9.cellAt i (by omega)
   rw [Nat.zero_add, h10]
   exact u8s_get _ _ hi
  rw [hv] at c1
  have HL := hide hlies
  generalize hN : st.out.length = n at *
  clear h hv hl hh hcm hcs htk hlies hN
  by_cases hbig : 32768 < n
  ·have e : min n 32768 = 32768 := by omega
   obtain ⟨l, hl⟩ : ∃ l, n = l + 32768 := ⟨n - 32768, by omega⟩
   subst hl
   have h0i : (0 : Int) ≤ (l : Int) := by omega
   have e2 : l + 32768 - 32768 = l := by omega
   have hmx : max (0 : Int) (l : Int) = (l : Int) := by omega
   rw [e, e2]
   go_enter Tryz.func152, Tryz.ntmps152
   go_wp2_with fail
   rw [show l + 32768 - l = 32768 by omega]
   go_ret
   exact ⟨rfl, some ⟨g, l, none⟩, rfl, fun _ => ⟨g, rfl, unhide HL⟩⟩
  ·have e : min n 32768 = n := by omega
   have hmx : max (0 : Int) ((n : Int) - 32768) = 0 := by omega
   rw [e, Nat.sub_self]
   go_enter Tryz.func152, Tryz.ntmps152
   go_wp2_with fail
   go_ret
   exact ⟨rfl, some ⟨g, 0, none⟩, rfl, fun _ => ⟨g, rfl, unhide HL⟩⟩
end Go.Proofs.YtbpahojchgpdnaaGreatDoor
