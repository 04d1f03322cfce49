/- Proved here: how long a code of the table is, by its key. -/
import Derived.Lib.BitFns
import Derived.Test.YtbpahojchgpdnaaGreatDoorGround
set_option maxRecDepth 20000
set_option maxHeartbeats 4000000
namespace Go.Proofs.YtbpahojchgpdnaaGreatDoor
open Go.RowKit Go.Bel Go.Maps
set_option maxRecDepth 100000 in
theorem fold_tab : (⟨(List.append (List.append [0, 1, 2, 2, 3, 3, 3, 3, 4, 4, 4, 4, 4, 4, 4, 4, 5, 5, 5, 5, 5, 5, 5, 5, 5, 5, 5, 5, 5, 5, 5, 5, 6, 6, 6, 6, 6, 6, 6, 6, 6, 6, 6, 6, 6, 6, 6, 6, 6, 6, 6, 6, 6, 6, 6, 6, 6, 6, 6, 6, 6, 6, 6, 6] [7, 7, 7, 7, 7, 7, 7, 7, 7, 7, 7, 7, 7, 7, 7, 7, 7, 7, 7, 7, 7, 7, 7, 7, 7, 7, 7, 7, 7, 7, 7, 7, 7, 7, 7, 7, 7, 7, 7, 7, 7, 7, 7, 7, 7, 7, 7, 7, 7, 7, 7, 7, 7, 7, 7, 7, 7, 7, 7, 7, 7, 7, 7, 7]) (List.append [8, 8, 8, 8, 8, 8, 8, 8, 8, 8, 8, 8, 8, 8, 8, 8, 8, 8, 8, 8, 8, 8, 8, 8, 8, 8, 8, 8, 8, 8, 8, 8, 8, 8, 8, 8, 8, 8, 8, 8, 8, 8, 8, 8, 8, 8, 8, 8, 8, 8, 8, 8, 8, 8, 8, 8, 8, 8, 8, 8, 8, 8, 8, 8] [8, 8, 8, 8, 8, 8, 8, 8, 8, 8, 8, 8, 8, 8, 8, 8, 8, 8, 8, 8, 8, 8, 8, 8, 8, 8, 8, 8, 8, 8, 8, 8, 8, 8, 8, 8, 8, 8, 8, 8, 8, 8, 8, 8, 8, 8, 8, 8, 8, 8, 8, 8, 8, 8, 8, 8, 8, 8, 8, 8, 8, 8, 8, 8])).toArray⟩ : ByteArray) = Lib.len8tab := by kernel_rfl
theorem tab_at (i : Int) (h0 : 0 ≤ i) (h : i < (Lib.len8tab.size : Int)) (h2 : i.toNat < Lib.len8tab.size) : ((Lib.len8tab[i.toNat]'h2).toNat : Int) = (Lib.bitLen i.toNat : Nat) := by
 have hs := Lib.len8tab_size
 rw [← Lib.len8_of i h0 (by omega)]
 unfold Lib.len8
 rw [getElem?_pos Lib.len8tab i.toNat h2]
 rfl
set_option maxRecDepth 100000 in
theorem len32_int (x : Int) (w : World) (h0 : 0 ≤ x) (h1 : x ≤ 65535) :
    Calls Tryz.prog 176 #[.int .u32 x] w fun e w' => e = .returned (.int .i64 (Lib.bitLen x.toNat : Nat)) ∧ w' = w := by
  go_enter Tryz.func176, Tryz.ntmps176
  rw [fold_tab]
  go_wp2
  all_goals try (exfalso; have := Lib.len8tab_size; omega)
  all_goals (go_ret; refine ⟨congrArg Ending.returned (congrArg (Value.int IntKind.i64) ?_), rfl⟩)
  all_goals first
    | (rw [tab_at x h0 (by omega)]
       have l := Lib.bitLen_le8' x (by omega) (by omega)
       unfold wrap64
       omega)
    | (rw [tab_at (x / 256) (by omega) (by omega)]
       have l := Lib.bitLen_le8' (x / 256) (by omega) (by omega)
       have e : (x / 256).toNat = x.toNat / 256 := by omega
       have s := Lib.bitLen_shift8 x.toNat (by omega) (by omega)
       rw [e] at l ⊢
       unfold wrap64
       omega)
theorem len32_any (x : Nat) (w : World) (h : x < 65536) :
  Calls Tryz.prog 176 #[.int .u32 (x : Nat)] w fun e w' => e = .returned (.int .i64 (Lib.bitLen x : Nat)) ∧ w' = w :=
 len32_int (x : Int) w (by omega) (by omega)
theorem length_any (x : Nat) (w : World) (h : x < 65536) :
  Calls Tryz.prog 155 #[.int .u32 (x : Nat)] w fun e w' => e = .returned (.int .i64 ((Lib.bitLen x : Nat) - 1 : Int)) ∧ w' = w := by
 have hb := Lib.bitLen_le x 16 (by omega) h
 go_enter Tryz.func155, Tryz.ntmps155
 go_wp2_with fail
 refine (len32_any x w h).mono ?_
 rintro e w1 ⟨rfl, rfl⟩
 obtain ⟨b, hb2⟩ : ∃ b, b = Lib.bitLen x := ⟨_, rfl⟩
 rw [← hb2] at hb ⊢
 have HB := hide hb2
 clear hb2
 go_wp2_with fail
 go_ret
 exact ⟨by rw [← unhide HB]; rfl, rfl⟩
theorem bitLen_of (l x : Nat) (h1 : 2 ^ l ≤ x) (h2 : x < 2 ^ (l + 1)) (h3 : x < 65536) : Lib.bitLen x = l + 1 := by
 rw [Lib.bitLen_shift l x h1 (by omega)]
 have : x / 2 ^ l = 1 := by
  rw [Nat.pow_succ] at h2
  have hp : 0 < 2 ^ l := Nat.pow_pos (by omega)
  apply Nat.div_eq_of_lt_le <;> omega
 rw [this]
 rfl
end Go.Proofs.YtbpahojchgpdnaaGreatDoor
