/- Proved here: what the law's sign and still do. -/
import Derived.Lib.BufferWrite
import Derived.Laws.BytesArg
import Derived.Test.YtbpahojchgpdnaaGreatDoorXSyms
import Derived.Test.YtbpahojchgpdnaaGreatDoorBitsAll
set_option maxRecDepth 20000
set_option maxHeartbeats 4000000
namespace Go.Proofs.YtbpahojchgpdnaaGreatDoor
open Go.RowKit Go.Bel
def lentCell (b : ByteArray) (i : Nat) : Value := .int .u8 (if i < b.size then ((bytesOf b)[i]?.getD 0 : Nat) else 201 : Nat)
theorem still_ok (B : Nat) (b : ByteArray) (w : World) (hrow : RowAt w B 5 (b.size + 8) (lentCell b)) (hb : b.size ≤ 140737488351232) :
  Calls Tryz.prog 68 #[.slice (some ⟨B, 0, none⟩) (b.size + 8) (b.size + 8), .string b] w fun r w' => r = .returned (.bool true) ∧ Step (fun _ => False) w w' := by
 have HR := hide hrow
 clear hrow
 go_enter Tryz.func68, Tryz.ntmps68
 go_wp2_with fail
 go_loopg [5] (b.size + 8) (fun g i wr => ∃ n : Nat, i = .int .i64 (n : Nat) ∧ g + n = b.size + 8 ∧ Step (fun _ => False) w wr)
 case atStart => exact ⟨0, rfl, rfl, Step.refl _ _⟩
 case round =>
  obtain ⟨n, rfl, hg, hst⟩ := hrel
  have hn8 : n ≤ b.size + 8 := by omega
  by_cases hend : n = b.size + 8
  ·have HS := hide hst
   clear hst
   have hnl : ¬ ((n : Int) < (b.size : Int) + 8) := by omega
   go_wp2_with fail
   go_ret
   exact ⟨rfl, unhide HS⟩
  ·have hcell := ((unhide HR).step hst (fun x => x)).cell n (by omega)
   have hnl : ((n : Int) < (b.size : Int) + 8) := by omega
   have hn0 : (0 : Int) ≤ (n : Int) := by omega
   have hgp : n + 1 + (gk - 1) = b.size + 8 := by omega
   have HS := hide hst
   clear hst
   unfold lentCell at hcell
   by_cases hlt : n < b.size
   ·have hli : ((n : Int) < (b.size : Int)) := by omega
    have hle : ¬ (b.size ≤ n) := by omega
    have hle2 : decide (b.size ≤ n) = false := decide_eq_false hle
    rw [if_pos hlt, bytesOf_get b n hlt] at hcell
    go_wp2_with fail
    go_quiet (fail)
    go_wp2_with fail
    go_roundg (gk - 1)
    case measure => omega
    case rel => exact ⟨n + 1, rfl, by omega, (unhide HS).trans ((Step.refl _ _).drewN _)⟩
   ·have hli : ¬ ((n : Int) < (b.size : Int)) := by omega
    have hle : ((b.size : Int) ≤ (n : Int)) := by omega
    rw [if_neg hlt] at hcell
    go_wp2_with fail
    go_quiet (fail)
    go_wp2_with fail
    go_roundg (gk - 1)
    case measure => omega
    case rel => exact ⟨n + 1, rfl, by omega, (unhide HS).trans ((Step.refl _ _).drewN _)⟩
end Go.Proofs.YtbpahojchgpdnaaGreatDoor
namespace Go.Proofs.YtbpahojchgpdnaaGreatDoor
open Go.RowKit Go.Bel
theorem lent_ok (b : ByteArray) (w : World) (hb : b.size ≤ 140737488351232) :
  Calls Tryz.prog 66 #[.string b] w fun r w' => r = .returned (.slice (some ⟨w.heap.size, 0, none⟩) (b.size + 8) (b.size + 8)) ∧ RowAt w' w.heap.size 5 (b.size + 8) (lentCell b) ∧ Step (fun _ => False) w w' := by
 obtain ⟨i0, hi, hz0, hz1, hz2⟩ := info_parts Tryz.info5
 have hinfo : (Tryz.prog.info? 5).map (·.size) = some 1 := by rw [hi]; simp [hz1]
 obtain ⟨M, hM⟩ : ∃ M, M = madeCells (Value.int .u8 0).cells (((b.size : Int) + 8).toNat * i0.size) := ⟨_, rfl⟩
 have hMs : M.size = b.size + 8 := by rw [hM, size_madeCells, hz1]; omega
 have hmk : ∀ W : World, (Instr.makeSlice 31 (.int .i64 ((b.size : Int) + 8)) (.int .i64 ((b.size : Int) + 8))).run Tryz.prog W = .ok (.slice (some ⟨W.heap.size, 0, none⟩) (b.size + 8) (b.size + 8)) (W.alloc (.cells M 5)) := fun W => by
  have h := run_make (P := Tryz.prog) W 31 5 i0 (.int .u8 0) Tryz.underlying31 hi hz0 .i64 .i64 ((b.size : Int) + 8) ((b.size : Int) + 8) (by omega) (by omega) (by rw [hz2]; omega) (by omega)
  rw [← hM, show ((b.size : Int) + 8).toNat = b.size + 8 by omega] at h
  exact h
 have hcp := Lib.run_copy_row_string (P := Tryz.prog) (w.alloc (.cells M 5)) 31 9 3 5 w.heap.size 0 (b.size + 8) (b.size + 8) b M 5 Tryz.underlying31 hinfo (heap_alloc_new w _) (by omega) (by omega)
 obtain ⟨Y, hY⟩ : ∃ Y, Y = (M.toList.take 0 ++ Lib.byteCells b.data.toList ++ M.toList.drop (0 + b.size)).toArray := ⟨_, rfl⟩
 rw [← hY] at hcp
 obtain ⟨w2, hw2⟩ : ∃ w2, w2 = (w.alloc (.cells M 5)).setRow w.heap.size Y := ⟨_, rfl⟩
 rw [← hw2] at hcp
 have hst2 : Step (fun _ => False) w w2 := by rw [hw2]; exact ((Step.refl _ _).alloc _).setRowNew (Nat.le_refl _) Y
 have hYs : Y.size = b.size + 8 := by
  rw [hY, List.size_toArray, List.length_append, List.length_append, List.length_drop, Lib.byteCells_length, ← Lib.size_eq, show M.toList.length = b.size + 8 by rw [Array.length_toList]; exact hMs, List.take_zero, List.length_nil]
  omega
 have hY0 : ∀ i, i < b.size → Y[i]?.getD undef = lentCell b i := fun i hi => by
  unfold lentCell
  rw [if_pos hi, bytesOf_get b i hi, hY, List.getElem?_toArray, List.take_zero, List.nil_append, List.getElem?_append_left (by rw [Lib.byteCells_length, ← Lib.size_eq]; exact hi)]
  simp [Lib.byteCells, hi]
  rfl
 have hrow2 : RowAt w2 w.heap.size 5 (b.size + 8) (fun i => if i < b.size then lentCell b i else Y[i]?.getD undef) := by
  refine ⟨Y, by rw [hw2]; exact setRow_heap _ _ M _ 5 (0, 0) (heap_alloc_new w _), hYs, fun i hi => ?_⟩
  dsimp only
  by_cases h1 : i < b.size
  ·rw [if_pos h1, ← hY0 i h1, Array.getElem?_eq_getElem (by omega)]; rfl
  ·rw [if_neg h1, Array.getElem?_eq_getElem (by omega)]; rfl
 have HROW := hide hrow2
 have HST := hide hst2
 clear hM hY hw2 hrow2 hst2 hY0
 go_enter Tryz.func66, Tryz.ntmps66
 go_wp2_with fail
 go_loopg [4] 8 (fun g i wr => ∃ n : Nat, i = .int .i64 (n : Nat) ∧ g + n = b.size + 8 ∧ b.size ≤ n ∧ RowAt wr w.heap.size 5 (b.size + 8) (fun i => if i < n then lentCell b i else Y[i]?.getD undef) ∧ Step (fun _ => False) w wr)
 case atStart => exact ⟨b.size, rfl, by omega, by omega, unhide HROW, unhide HST⟩
 case round =>
  obtain ⟨n, rfl, hg, hbn, hrow, hst⟩ := hrel
  by_cases hend : n = b.size + 8
  ·have hnl : ¬ ((n : Int) < (b.size : Int) + 8) := by omega
   have HS := hide (show RowAt wr w.heap.size 5 (b.size + 8) (lentCell b) ∧ Step (fun _ => False) w wr from ⟨hrow.congr (fun i hi => by rw [if_pos (by omega)]), hst⟩)
   clear hst hrow
   go_wp2_with fail
   go_ret
   exact ⟨rfl, unhide HS⟩
  ·have hnl : ((n : Int) < (b.size : Int) + 8) := by omega
   have hn0 : (0 : Int) ≤ (n : Int) := by omega
   have HSET := hide (show RowAt (wr.setCell ⟨w.heap.size, n, none⟩ (.int .u8 201)) w.heap.size 5 (b.size + 8) (fun i => if i < n + 1 then lentCell b i else Y[i]?.getD undef) ∧ Step (fun _ => False) w (wr.setCell ⟨w.heap.size, n, none⟩ (.int .u8 201)) from ⟨by
    refine (hrow.set n (.int .u8 201)).congr fun i _ => ?_
    by_cases h1 : i = n
    ·subst h1
     simp [lentCell, show ¬ i < b.size by omega]
    ·by_cases h2 : i < n
     ·simp [h1, h2, show i < n + 1 by omega]
     ·simp [h1, h2, show ¬ i < n + 1 by omega], hst.setNew (Nat.le_refl _) _⟩)
   have hcell := hrow.cell n (by omega)
   have hfr := hrow.free n
   clear hrow hst
   go_wp2_with fail
   go_roundg (gk - 1)
   case measure => omega
   case rel => exact ⟨n + 1, rfl, by omega, by omega, (unhide HSET).1, (unhide HSET).2⟩
end Go.Proofs.YtbpahojchgpdnaaGreatDoor
namespace Go.Proofs.YtbpahojchgpdnaaGreatDoor
open Go.RowKit Go.Bel
def strOf (out : List Nat) : ByteArray := strOfNums (out.map (fun x : Nat => (x : Int)))
theorem conv_row {W : World} {base : Nat} {v : Value} {out : List Nat} (h : W.ownsRow base 5 1 v out.length (u8s out)) :
  (convert 31 9 v).run Tryz.prog W = .ok (.string (strOf out)) W := by
 have h2 := h
 obtain ⟨_, ⟨hv, hn⟩ | ⟨g, cap, cur, hv, _⟩⟩ := h
 ·rw [hv, List.eq_nil_of_length_eq_zero hn]
  exact run_convert_bytes_nil W 31 5 Tryz.underlying31 Tryz.underlying5 0 0 9 Tryz.underlying9
 ·subst hv
  exact run_convert_bytes_arg W 31 5 Tryz.underlying31 Tryz.underlying5 g 0 out.length cap (out.map (fun x : Nat => (x : Int))) (by simp) (fun j hj => by
   have hc := h2.cellAt j (by omega)
   rw [Nat.zero_add, hc, u8s_get _ _ hj]
   simp [List.getD, List.getElem?_map, List.getElem?_eq_getElem hj]) 9 Tryz.underlying9
theorem same_ok (e used b1 b2 : Nat) (v1 v2 : Value) (out : List Nat) (s : ByteArray) (w : World) (h1 : w.ownsRow b1 5 1 v1 out.length (u8s out)) (h2 : w.ownsRow b2 5 1 v2 out.length (u8s out)) :
  Calls Tryz.prog 69 #[.agg #[.int .i64 (e : Nat), v1, .int .i64 (used : Nat), .string s], .agg #[.int .i64 (e : Nat), v2, .int .i64 (used : Nat), .string s]] w fun r w' => r = .returned (.bool true) ∧ Step (fun _ => False) w w' := by
 have k1 : ∀ o1 o2, (convert 31 9 v1).run Tryz.prog ((w.alloc o1).alloc o2) = .ok (.string (strOf out)) ((w.alloc o1).alloc o2) := fun o1 o2 => conv_row ((h1.alloc o1).alloc o2)
 have k2 : ∀ o1 o2, (convert 31 9 v2).run Tryz.prog ((w.alloc o1).alloc o2) = .ok (.string (strOf out)) ((w.alloc o1).alloc o2) := fun o1 o2 => conv_row ((h2.alloc o1).alloc o2)
 generalize strOf out = so at *
 clear h1 h2
 go_enter Tryz.func69, Tryz.ntmps69
 go_wp2_with fail
 go_ret
 exact ⟨rfl, ((Step.refl _ _).alloc _).alloc _⟩
end Go.Proofs.YtbpahojchgpdnaaGreatDoor
namespace Go.Proofs.YtbpahojchgpdnaaGreatDoor
open Go.RowKit Go.Bel
def signV (m i : Nat) : Nat := (m + i * (1 + m / 256)) % 256
theorem sign_any (m i : Nat) (w : World) (hm : m ≤ 281474976710656) :
  Calls Tryz.prog 73 #[.int .i64 (m : Nat), .int .i64 (i : Nat)] w fun r w' => r = .returned (.int .u8 (signV m i : Nat)) ∧ w' = w := by
 have HE := hide (show wrap64 ((m : Int) + wrap64 ((i : Int) * (1 + (m : Int) / 256))) % 256 = (signV m i : Nat) from by
  unfold signV
  have e : (i : Int) * (1 + (m : Int) / 256) = ((i * (1 + m / 256) : Nat) : Int) := by simp
  rw [e]
  generalize i * (1 + m / 256) = p
  unfold wrap64
  omega)
 go_enter Tryz.func73, Tryz.ntmps73
 go_wp2_with fail
 go_ret
 exact ⟨by rw [unhide HE]; rfl, rfl⟩
structure HoldAt (w : World) (h : Nat) (v : Value) (n m : Nat) : Prop where
 blk : w.heap[h]? = some (.cells #[v, .int .i64 (m : Nat)] 116 (0, 0))
 form : (v = .slice none 0 0 ∧ n = 0) ∨ ∃ g cap, v = .slice (some ⟨g, 0, none⟩) n cap ∧ ∀ i, i < n → w.cell? ⟨g, i, none⟩ = some (.int .u8 (signV m i : Nat))
 small : n ≤ 281474976710656
 mark : m ≤ 281474976710656
theorem cellL_drew {w : World} {a : Addr} {v : Value} (h : w.cell? a = some v) (n : Nat) : (w.drewN n).cell? a = some v := by
 simpa using h
theorem marked_ok (h n m : Nat) (v : Value) (w : World) (hh : HoldAt w h v n m) :
  Calls Tryz.prog 48 #[.pointer (some ⟨h, 0, none⟩)] w fun r w' => r = .returned (.bool true) ∧ Step (fun _ => False) w w' := by
 have hm := hh.mark
 have hn := hh.small
 have c0 : w.cell? ⟨h, 0, none⟩ = some v := blk_cell hh.blk 0 _ rfl
 have c1 : w.cell? ⟨h, 1, none⟩ = some (.int .i64 (m : Nat)) := blk_cell hh.blk 1 _ rfl
 have hf := hh.form
 clear hh
 rcases hf with ⟨rfl, rfl⟩ | ⟨g, cap, rfl, hc⟩
 ·go_enter Tryz.func48, Tryz.ntmps48
  go_wp2_with fail
  go_loopg [3] 1 (fun g i wr => i = .int .i64 0 ∧ wr = w)
  case atStart => exact ⟨rfl, rfl⟩
  case round =>
   obtain ⟨rfl, rfl⟩ := hrel
   go_wp2_with fail
   go_ret
   exact ⟨rfl, Step.refl _ _⟩
 ·have HC := hide hc
  clear hc
  go_enter Tryz.func48, Tryz.ntmps48
  go_wp2_with fail
  go_loopg [3] n (fun k i wr => ∃ j d : Nat, i = .int .i64 (j : Nat) ∧ k + j = n ∧ wr = w.drewN d)
  case atStart => exact ⟨0, 0, rfl, by omega, rfl⟩
  case round =>
   obtain ⟨j, d, rfl, hk, rfl⟩ := hrel
   have d0 := cellL_drew c0 d
   have d1 := cellL_drew c1 d
   by_cases hend : j = n
   ·have hnl : ¬ ((j : Int) < (n : Int)) := by omega
    go_wp2_with fail
    go_ret
    exact ⟨rfl, (Step.refl _ _).drewN _⟩
   ·have hnl : (j : Int) < (n : Int) := by omega
    have hj0 : (0 : Int) ≤ (j : Int) := by omega
    have hcj := unhide HC j (by omega)
    go_wp2_with fail
    go_region_held3 (fun w' => w'.cell? ⟨h, 0, none⟩ = some (.slice (some ⟨g, 0, none⟩) n cap) ∧ w'.cell? ⟨h, 1, none⟩ = some (.int .i64 (m : Nat)) ∧ w'.cell? ⟨g, j, none⟩ = some (.int .u8 (signV m j : Nat))) (go_keep)
     (first | (go_at_call 73; refine (sign_any m j _ hm).mono ?_; rintro e w8 ⟨rfl, rfl⟩))
    all_goals
     go_wp2_with fail
     go_roundg (gk - 1)
     case measure => omega
     case rel => exact ⟨j + 1, d + 1, rfl, by omega, rfl⟩
end Go.Proofs.YtbpahojchgpdnaaGreatDoor
namespace Go.Proofs.YtbpahojchgpdnaaGreatDoor
open Go.RowKit Go.Bel
theorem HoldAt.step0 {w w' : World} {h n m : Nat} {v : Value} (hh : HoldAt w h v n m) (hs : Step (fun _ => False) w w') : HoldAt w' h v n m :=
 ⟨hs.at_ hh.blk (fun x => x), hh.form.imp (fun x => x) (fun ⟨g, cap, hv, hc⟩ => ⟨g, cap, hv, fun i hi => hs.cell (hc i hi) (fun x => x)⟩), hh.small, hh.mark⟩
structure HoldsAt (w : World) (wb gh nh cap : Nat) : Prop where
 cell : w.cell? ⟨wb, 1, none⟩ = some (.slice (some ⟨gh, 0, none⟩) nh cap)
 all : ∀ i, i < nh → ∃ hp v n m, w.cell? ⟨gh, i, none⟩ = some (.pointer (some ⟨hp, 0, none⟩)) ∧ HoldAt w hp v n m
 small : nh ≤ 281474976710656
theorem looks_ok (wb gh nh cap : Nat) (w : World) (hh : HoldsAt w wb gh nh cap) :
  Calls Tryz.prog 33 #[.pointer (some ⟨wb, 0, none⟩)] w fun r w' => r = .returned (.bool true) ∧ Step (fun _ => False) w w' := by
 have hn := hh.small
 have HH := hide hh
 clear hh
 go_enter Tryz.func33, Tryz.ntmps33
 go_wp2_with fail
 go_loopg [3] nh (fun k i wr => ∃ j : Nat, i = .int .i64 (j : Nat) ∧ k + j = nh ∧ Step (fun _ => False) w wr)
 case atStart => exact ⟨0, rfl, by omega, Step.refl _ _⟩
 case round =>
  obtain ⟨j, rfl, hk, hst⟩ := hrel
  have c1 := hst.cell (unhide HH).cell (fun x => x)
  have HST := hide hst
  by_cases hend : j = nh
  ·have hnl : ¬ ((j : Int) < (nh : Int)) := by omega
   clear hst
   go_wp2_with fail
   go_ret
   exact ⟨rfl, unhide HST⟩
  ·have hnl : (j : Int) < (nh : Int) := by omega
   have hj0 : (0 : Int) ≤ (j : Int) := by omega
   obtain ⟨hp, v, n, m, hc, hold⟩ := (unhide HH).all j (by omega)
   have hcj := hst.cell hc (fun x => x)
   have HM := hide (marked_ok hp n m v wr (hold.step0 hst))
   clear hst hc hold
   go_wp2_with fail
   refine (unhide HM).mono ?_
   rintro r w1 ⟨rfl, hs1⟩
   have HS1 := hide ((unhide HST).trans hs1)
   clear hs1
   go_wp2_with fail
   go_roundg (gk - 1)
   case measure => omega
   case rel => exact ⟨j + 1, rfl, by omega, unhide HS1⟩
end Go.Proofs.YtbpahojchgpdnaaGreatDoor
namespace Go.Proofs.YtbpahojchgpdnaaGreatDoor
open Go.RowKit Go.Bel
def signs (m n : Nat) : List Value := (List.range n).map fun i => .int .u8 (signV m i : Nat)
theorem signs_length (m n : Nat) : (signs m n).length = n := by simp [signs]
theorem signs_succ (m n : Nat) : signs m (n + 1) = signs m n ++ [.int .u8 (signV m n : Nat)] := by simp [signs, List.range_succ]
theorem signs_get (m n i : Nat) (hi : i < n) : (signs m n)[i]? = some (.int .u8 (signV m i : Nat)) := by simp [signs, hi]
structure Hd where
 hp : Nat
 v : Value
 n : Nat
 m : Nat
structure HB (w : World) (q : Hd) : Prop where
 hold : HoldAt w q.hp q.v q.n q.m
 row : ∀ k, q.v.ownBlock = some k → ∃ cur, w.heap[k]? = some (.cells cur 5 (0, 0))
theorem hold_of_own {w : World} {base h n m : Nat} {v : Value} (blk : w.heap[h]? = some (.cells #[v, .int .i64 (m : Nat)] 116 (0, 0))) (own : w.ownsRow base 5 1 v n (signs m n)) (hn : n ≤ 281474976710656) (hm : m ≤ 281474976710656) : HB w ⟨h, v, n, m⟩ := by
 have own' := own
 obtain ⟨_, ⟨hv, hz⟩ | ⟨g, cap, cur, hv, _, hh, _⟩⟩ := own
 ·exact ⟨⟨blk, .inl ⟨hv, hz⟩, hn, hm⟩, fun k hk => by dsimp only at hk; rw [hv] at hk; cases hk⟩
 ·refine ⟨⟨blk, .inr ⟨g, cap, hv, fun i hi => ?_⟩, hn, hm⟩, fun k hk => ?_⟩
  ·dsimp only at hi
   rw [hv] at own'
   rw [own'.cellAt i (by omega), signs_get m n i hi]
  ·dsimp only at hk
   rw [hv] at hk
   cases hk
   exact ⟨cur, hh⟩
theorem HB.step {S : Nat → Prop} {w w' : World} {q : Hd} (h : HB w q) (hs : Step S w w') (h1 : ¬ S q.hp) (h2 : ∀ k, q.v.ownBlock = some k → ¬ S k) : HB w' q :=
 ⟨⟨hs.at_ h.hold.blk h1, h.hold.form.imp (fun x => x) (fun ⟨g, cap, e, hc⟩ => ⟨g, cap, e, fun i hi => hs.cell (hc i hi) (h2 g (by rw [e]; rfl))⟩), h.hold.small, h.hold.mark⟩,
  fun k hk => by obtain ⟨cur, hc⟩ := h.row k hk; exact ⟨cur, hs.at_ hc (h2 k hk)⟩⟩
theorem HB.step0 {w w' : World} {q : Hd} (h : HB w q) (hs : Step (fun _ => False) w w') : HB w' q := h.step hs (fun x => x) (fun _ _ x => x)
theorem HB.lt {w : World} {q : Hd} (h : HB w q) {k : Nat} (hk : q.v.ownBlock = some k) : k < w.heap.size := by
 obtain ⟨cur, hc⟩ := h.row k hk
 exact lt_of_block hc
theorem own_ne {w : World} {base h n : Nat} {v : Value} {xs : List Value} {A : Array Value} (blk : w.heap[h]? = some (.cells A 116 (0, 0))) (own : w.ownsRow base 5 1 v n xs) : v.ownBlock ≠ some h := fun e => by
 obtain ⟨_, ⟨hv, _⟩ | ⟨g, cap, cur, hv, _, hh, _⟩⟩ := own
 ·rw [hv] at e; cases e
 ·rw [hv] at e
  cases e
  rw [hh] at blk
  cases blk
def Keeps (w w' : World) (v : Value) (n m : Nat) : Prop :=
 ∀ q, HB w q → (∀ k, v.ownBlock = some k → q.v.ownBlock = some k → q.m = m ∧ q.n ≤ n) → HB w' q
theorem keeps_in {w w' : World} {base g n n' m cap : Nat} {v : Value} {xs : List Value} (own : w.ownsRow base 5 1 v n xs) (hv : v.ownBlock = some g) (own' : w'.ownsRow base 5 1 (.slice (some ⟨g, 0, none⟩) n' cap) n' (signs m n')) (hn : n ≤ n') (hs : Step (fun k => k = g) w w') : Keeps w w' v n m := by
 intro q hh hc
 have hne : q.hp ≠ g := fun e => own_ne hh.hold.blk own (by rw [hv, e])
 refine ⟨⟨hs.at_ hh.hold.blk (fun e => hne e), hh.hold.form.imp (fun x => x) (fun ⟨k, c, e, hcs⟩ => ⟨k, c, e, fun i hi => ?cells⟩), hh.hold.small, hh.hold.mark⟩, fun k hk => ?rows⟩
 case cells =>
  by_cases hk : k = g
  ·subst hk
   obtain ⟨hm, hle⟩ := hc k hv (by rw [e]; rfl)
   rw [own'.cellAt i (by omega), signs_get _ _ i (by omega), hm]
  ·exact hs.cell (hcs i hi) (fun y => hk y)
 case rows =>
  by_cases hkg : k = g
  ·subst hkg
   obtain ⟨_, ⟨hv', _⟩ | ⟨g', cap', cur, hv', _, hh', _⟩⟩ := own'
   ·cases hv'
   ·cases hv'
    exact ⟨cur, hh'⟩
  ·obtain ⟨cur, hcur⟩ := hh.row k hk
   exact ⟨cur, hs.at_ hcur (fun y => hkg y)⟩
theorem Keeps.of_step0 {w w' : World} {v : Value} {n m : Nat} (hs : Step (fun _ => False) w w') : Keeps w w' v n m := fun _ hh _ => hh.step0 hs
def Moves (w : World) (v v' : Value) : Prop := v'.ownBlock = v.ownBlock ∨ ∀ k, v'.ownBlock = some k → w.heap.size ≤ k
theorem two_last (w : World) (A B : Obj) : ((w.alloc A).alloc B).heap[w.heap.size + 1]? = some B := by
 have h := heap_alloc_new (w.alloc A) B
 rwa [show (w.alloc A).heap.size = w.heap.size + 1 by simp] at h
theorem two_first (w : World) (A B : Obj) : ((w.alloc A).alloc B).heap[w.heap.size]? = some A :=
 (Below.heap_alloc _ _ _ (by simp)).trans (heap_alloc_new w A)
theorem longer_app {w w0 w1 : World} {base g n m cap : Nat} {v : Value} (own : w.ownsRow base 5 1 v n (signs m n)) (h0 : Step (fun _ => False) w w0) (hb : w0.heap[w.heap.size]? = some (.cells #[.slice none 0 0, .int .i64 (m : Nat)] 116 (0, 0)))
  (own' : w1.ownsRow base 5 1 (.slice (some ⟨g, 0, none⟩) (n + 1) cap) (n + 1) (signs m n ++ [.int .u8 (signV m n : Nat)])) (hg : (v.ownBlock = some g ∧ w0.grownBy w1 (some g)) ∨ (w0.heap.size ≤ g ∧ w0.grownBy w1 none)) (hn : n < 281474976710656) (hm : m ≤ 281474976710656) :
  w1.heap[w.heap.size]? = some (.cells #[.slice none 0 0, .int .i64 (m : Nat)] 116 (0, 0)) ∧
  ∀ w', w' = w1.setCell ⟨w.heap.size, 0, none⟩ (.slice (some ⟨g, 0, none⟩) (n + 1) cap) → HB w' ⟨w.heap.size, .slice (some ⟨g, 0, none⟩) (n + 1) cap, n + 1, m⟩ ∧ w'.ownsRow base 5 1 (.slice (some ⟨g, 0, none⟩) (n + 1) cap) (n + 1) (signs m (n + 1)) ∧ Moves w v (.slice (some ⟨g, 0, none⟩) (n + 1) cap) ∧ Keeps w w' v n m ∧ Step (fun k => v.ownBlock = some k) w w' := by
 have hlt := lt_of_block hb
 have hne : g ≠ w.heap.size := by
  rcases hg with ⟨h1, _⟩ | ⟨h1, _⟩
  ·have := (own.lt g h1).2; omega
  ·omega
 have hb1 : w1.heap[w.heap.size]? = some (.cells #[.slice none 0 0, .int .i64 (m : Nat)] 116 (0, 0)) := by
  rcases hg with ⟨h1, h2⟩ | ⟨h1, h2⟩
  ·rw [h2.block _ hlt (fun e => hne (by simpa using e.symm)), hb]
  ·rw [h2.block _ hlt (by simp), hb]
 refine ⟨hb1, ?_⟩
 rintro w' rfl
 rw [← signs_succ] at own'
 have own2 := ownsRow_setCell_other own' (a := ⟨w.heap.size, 0, none⟩) (by simpa [Value.ownBlock] using hne) (.slice (some ⟨g, 0, none⟩) (n + 1) cap)
 have hb2 := blk_set hb1 0 (.slice (some ⟨g, 0, none⟩) (n + 1) cap)
 refine ⟨hold_of_own (by simpa using hb2) own2 (by omega) hm, own2, ?_, ?_, ?_⟩
 ·rcases hg with ⟨h1, _⟩ | ⟨h1, _⟩
  ·exact .inl (by rw [h1]; rfl)
  ·refine .inr fun k hk => ?_
   cases hk
   exact Nat.le_trans (by omega) h1
 ·rcases hg with ⟨h1, h2⟩ | ⟨h1, h2⟩
  ·exact keeps_in own h1 own2 (by omega) ((((h0.mono (fun _ x => x.elim)).grown h2 (fun k e => .inl (by simpa using e.symm)))).setNew (Nat.le_refl _) _)
  ·exact Keeps.of_step0 ((h0.grown h2 (fun k e => by cases e)).setNew (Nat.le_refl _) _)
 ·rcases hg with ⟨h1, h2⟩ | ⟨h1, h2⟩
  ·exact (((h0.mono (fun _ x => x.elim)).grown h2 (fun k e => .inl (by rw [h1, e])))).setNew (Nat.le_refl _) _
  ·exact ((h0.mono (fun _ x => x.elim)).grown h2 (fun k e => by cases e)).setNew (Nat.le_refl _) _
theorem longer_ok (h base n m : Nat) (v : Value) (w : World) (hh : HB w ⟨h, v, n, m⟩) (own : w.ownsRow base 5 1 v n (signs m n)) (hb : base ≤ w.heap.size) (hn : n ≤ 140737488355328) :
  Calls Tryz.prog 116 #[.pointer (some ⟨h, 0, none⟩)] w fun r w' => ∃ hp v', r = .returned (.pointer (some ⟨hp, 0, none⟩)) ∧ w.heap.size ≤ hp ∧ HB w' ⟨hp, v', n + 1, m⟩ ∧ w'.ownsRow base 5 1 v' (n + 1) (signs m (n + 1)) ∧ Moves w v v' ∧ Keeps w w' v n m ∧ Step (fun k => v.ownBlock = some k) w w' := by
 have hm := hh.hold.mark
 obtain ⟨i0, hi, hz0, hz1, hz2⟩ := info_parts Tryz.info5
 have c0 : w.cell? ⟨h, 0, none⟩ = some v := blk_cell hh.hold.blk 0 _ rfl
 have c1 : w.cell? ⟨h, 1, none⟩ = some (.int .i64 (m : Nat)) := blk_cell hh.hold.blk 1 _ rfl
 have hblk := hh.hold.blk
 obtain ⟨a, c, hv⟩ : ∃ a c, v = .slice a n c := by
  obtain ⟨_, ⟨hv, hz⟩ | ⟨g, cap, _, hv, _⟩⟩ := own
  ·exact ⟨none, 0, by rw [hv, hz]⟩
  ·exact ⟨_, _, hv⟩
 rw [hv] at c0
 have HBLK := hide hblk
 have HOWN := hide own
 have HV := hide hv
 have hlt := lt_of_block hblk
 clear hh hblk own hv
 go_enter Tryz.func116, Tryz.ntmps116
 go_wp2_with fail
 go_region_held3 (fun w' => w'.cell? ⟨h, 0, none⟩ = some (.slice a n c) ∧ w'.cell? ⟨h, 1, none⟩ = some (.int .i64 (m : Nat))) (go_keep)
  (first | (go_at_call 73; refine (sign_any m n _ hm).mono ?_; rintro e w8 ⟨rfl, rfl⟩))
 all_goals
  rw [unhide HV] at HOWN
  go_wp2_with (at_builtin; refine wpList_append_row2 _ rfl _ _ 31 rfl base 5 i0 (.int .u8 0) 1 Tryz.underlying31 hi hz0 hz1 hz2 rfl _ n (signs m n) rfl (by exact ((unhide HOWN).alloc _).alloc _) ⟨w.heap.size + 1, 0, none⟩ 1 (.int .u8 (signV m n : Nat)) rfl ?c1 rfl (by decide) ?c4 (by decide) ?c5 ?_)
  case c1 => exact cell_of_one (w := (w.alloc (.cells #[.slice none 0 0, .int .i64 (m : Nat)] 116)).alloc (.cells #[.int .u8 (signV m n : Nat)] 5)) (two_last _ _ _)
  case c4 => omega
  case c5 => simp; omega
  intro g cap w1 hown' hgr
  obtain ⟨hb1, hw⟩ := longer_app (unhide HOWN) ((((Step.refl (fun _ => False) w).alloc (.cells #[.slice none 0 0, .int .i64 (m : Nat)] 116)).alloc (.cells #[.int .u8 (signV m n : Nat)] 5)).drew) (two_first _ _ _) hown' (by simpa using hgr) (by omega) hm
  have k0 := blk_cell hb1 0 _ rfl
  have kf := blk_free hb1 0
  have HW := hide hw
  clear hown' hgr hw hb1
  go_wp2_with fail
  go_ret
  obtain ⟨r1, r2, r3, r4, r5⟩ := unhide HW _ rfl
  rw [← unhide HV] at r3 r4 r5
  exact ⟨_, _, rfl, Nat.le_refl _, r1, r2, r3, r4, r5⟩
end Go.Proofs.YtbpahojchgpdnaaGreatDoor
namespace Go.Proofs.YtbpahojchgpdnaaGreatDoor
open Go.RowKit Go.Bel
def hdPtr (q : Hd) : Value := .pointer (some ⟨q.hp, 0, none⟩)
structure KAt (w : World) (base wb : Nat) (ps v : Value) (hs : List Hd) (F : Nat → Prop) : Prop where
 blk : w.heap[wb]? = some (.cells #[ps, v] 70 (0, 0))
 own : w.ownsRow base 89 1 v hs.length (hs.map hdPtr)
 each : ∀ q ∈ hs, HB w q ∧ ∀ k, q.v.ownBlock = some k → F k
theorem own_blk_ne {w : World} {base h n e t : Nat} {v : Value} {xs : List Value} {A : Array Value} (blk : w.heap[h]? = some (.cells A t (0, 0))) (own : w.ownsRow base e 1 v n xs) (ht : t ≠ e) : v.ownBlock ≠ some h := fun x => by
 obtain ⟨_, ⟨hv, _⟩ | ⟨g, cap, cur, hv, _, hh, _⟩⟩ := own
 ·rw [hv] at x; cases x
 ·rw [hv] at x
  cases x
  rw [hh] at blk
  cases blk
  exact ht rfl
theorem own_row {w : World} {base n e k : Nat} {v : Value} {xs : List Value} (own : w.ownsRow base e 1 v n xs) (hk : v.ownBlock = some k) : ∃ cur, w.heap[k]? = some (.cells cur e (0, 0)) := by
 obtain ⟨_, ⟨hv, _⟩ | ⟨g, cap, cur, hv, _, hh, _⟩⟩ := own
 ·rw [hv] at hk; cases hk
 ·rw [hv] at hk
  cases hk
  exact ⟨cur, hh⟩
theorem own_step {S : Nat → Prop} {w w' : World} {base n e : Nat} {v : Value} {xs : List Value} (own : w.ownsRow base e 1 v n xs) (hs : Step S w w') (hn : ∀ k, v.ownBlock = some k → ¬ S k) : w'.ownsRow base e 1 v n xs :=
 ownsRow_of_block own fun k hk => hs.block k (own.lt k hk).2 (hn k hk)
theorem KAt.mono {w : World} {base wb : Nat} {ps v : Value} {hs : List Hd} {F F' : Nat → Prop} (K : KAt w base wb ps v hs F) (h : ∀ k, F k → F' k) : KAt w base wb ps v hs F' :=
 ⟨K.blk, K.own, fun q hq => ⟨(K.each q hq).1, fun k hk => h k ((K.each q hq).2 k hk)⟩⟩
theorem KAt.step0 {w w' : World} {base wb : Nat} {ps v : Value} {hs : List Hd} {F : Nat → Prop} (K : KAt w base wb ps v hs F) (h : Step (fun _ => False) w w') : KAt w' base wb ps v hs F :=
 ⟨h.at_ K.blk (fun x => x), own_step K.own h (fun _ _ x => x), fun q hq => ⟨(K.each q hq).1.step0 h, (K.each q hq).2⟩⟩
theorem KAt.row {w w' : World} {base base' wb n : Nat} {ps v vb : Value} {ys : List Value} {hs : List Hd} {F : Nat → Prop} (K : KAt w base wb ps v hs F) (own : w.ownsRow base' 5 1 vb n ys) (h : Step (fun k => vb.ownBlock = some k) w w') (hq : ∀ q ∈ hs, HB w' q) : KAt w' base wb ps v hs F :=
 ⟨h.at_ K.blk (fun x => own_blk_ne K.blk own (by decide) x), own_step K.own h (fun k hk x => by obtain ⟨cur, hc⟩ := own_row K.own hk; exact own_blk_ne hc own (by decide) x), fun q hx => ⟨hq q hx, (K.each q hx).2⟩⟩
theorem KAt.app {w w0 w1 : World} {base wb g cap : Nat} {ps v : Value} {hs : List Hd} {F : Nat → Prop} {q : Hd} (K : KAt w base wb ps v hs F) (h0 : Step (fun _ => False) w w0) (own' : w1.ownsRow base 89 1 (.slice (some ⟨g, 0, none⟩) (hs.length + 1) cap) (hs.length + 1) (hs.map hdPtr ++ [hdPtr q]))
  (hg : (v.ownBlock = some g ∧ w0.grownBy w1 (some g)) ∨ (w0.heap.size ≤ g ∧ w0.grownBy w1 none)) (hq : HB w q) (hF : ∀ k, q.v.ownBlock = some k → F k) :
  w1.heap[wb]? = some (.cells #[ps, v] 70 (0, 0)) ∧
  ∀ w', w' = w1.setCell ⟨wb, 1, none⟩ (.slice (some ⟨g, 0, none⟩) (hs.length + 1) cap) → KAt w' base wb ps (.slice (some ⟨g, 0, none⟩) (hs.length + 1) cap) (hs ++ [q]) F ∧ (v.ownBlock = some g ∨ w.heap.size ≤ g) ∧ Step (fun k => k = wb ∨ v.ownBlock = some k) w w' := by
 have hs1 : Step (fun k => k = wb ∨ v.ownBlock = some k) w w1 := by
  rcases hg with ⟨h1, h2⟩ | ⟨h1, h2⟩
  ·exact (h0.mono (fun _ x => x.elim)).grown h2 (fun k e => .inl (.inr (by rw [h1, e])))
  ·exact (h0.mono (fun _ x => x.elim)).grown h2 (fun k e => by cases e)
 have hs2 : Step (fun k => v.ownBlock = some k) w w1 := by
  rcases hg with ⟨h1, h2⟩ | ⟨h1, h2⟩
  ·exact (h0.mono (fun _ x => x.elim)).grown h2 (fun k e => .inl (by rw [h1, e]))
  ·exact (h0.mono (fun _ x => x.elim)).grown h2 (fun k e => by cases e)
 have hb1 := hs2.at_ K.blk (fun x => own_blk_ne K.blk K.own (by decide) x)
 refine ⟨hb1, ?_⟩
 rintro w' rfl
 have hS := hs1.setCell (p := ⟨wb, 1, none⟩) (.inl rfl) (.slice (some ⟨g, 0, none⟩) (hs.length + 1) cap)
 have hb2 := blk_set hb1 1 (.slice (some ⟨g, 0, none⟩) (hs.length + 1) cap)
 have keep : ∀ p, HB w p → HB (w1.setCell ⟨wb, 1, none⟩ (.slice (some ⟨g, 0, none⟩) (hs.length + 1) cap)) p := fun p hp => by
  refine hp.step hS ?_ ?_
  ·rintro (x | x)
   ·have := hp.hold.blk
    rw [x, K.blk] at this
    cases this
   ·exact own_blk_ne hp.hold.blk K.own (by decide) x
  ·intro k hk
   obtain ⟨cur, hc⟩ := hp.row k hk
   rintro (x | x)
   ·rw [x, K.blk] at hc
    cases hc
   ·exact own_blk_ne hc K.own (by decide) x
 refine ⟨⟨by simpa using hb2, ?_, ?_⟩, ?_, hS⟩
 ·have := ownsRow_setCell_other own' (a := ⟨wb, 1, none⟩) (own_blk_ne hb1 own' (by decide)) (.slice (some ⟨g, 0, none⟩) (hs.length + 1) cap)
  simpa using this
 ·intro p hp
  rcases List.mem_append.mp hp with hp | hp
  ·exact ⟨keep p (K.each p hp).1, (K.each p hp).2⟩
  ·obtain rfl : p = q := by simpa using hp
   exact ⟨keep p hq, hF⟩
 ·rcases hg with ⟨h1, _⟩ | ⟨h1, _⟩
  ·exact .inl h1
  ·exact .inr (Nat.le_trans h0.size h1)
def KS (wb : Nat) (v vb : Value) (k : Nat) : Prop := vb.ownBlock = some k ∨ k = wb ∨ v.ownBlock = some k
def KF (w : World) (F : Nat → Prop) (vb : Value) (k : Nat) : Prop := F k ∨ vb.ownBlock = some k ∨ w.heap.size ≤ k
structure KeepI (w wr : World) (base wb : Nat) (ps v vb : Value) (n m : Nat) (F : Nat → Prop) (hp j : Nat) (v' : Value) (hs' : List Hd) (vq : Value) : Prop where
 at_ : KAt wr base wb ps v' hs' (KF w F vb)
 last : HB wr ⟨hp, vq, n + j, m⟩
 own : wr.ownsRow base 5 1 vq (n + j) (signs m (n + j))
 grp : ∀ q ∈ hs', ∀ k, vq.ownBlock = some k → q.v.ownBlock = some k → q.m = m ∧ q.n ≤ n + j
 mv : ∀ k, v'.ownBlock = some k → v.ownBlock = some k ∨ w.heap.size ≤ k
 mq : ∀ k, vq.ownBlock = some k → vb.ownBlock = some k ∨ w.heap.size ≤ k
 step : Step (KS wb v vb) w wr
theorem KeepI.start {w wr : World} {base wb n : Nat} {ps v vb : Value} {F : Nat → Prop} {hs : List Hd} {ys : List Value} {m : Nat} (K : KAt w base wb ps v hs F) (hF : ∀ k, vb.ownBlock = some k → ¬ F k) (own : w.ownsRow base 5 1 vb n ys)
  (h : Step (fun k => vb.ownBlock = some k) (w.alloc (.cells #[vb, .int .i64 (m : Nat)] 116)) wr) (own' : wr.ownsRow base 5 1 vb n (signs m n)) (hn : n ≤ 281474976710656) (hm : m ≤ 281474976710656) : KeepI w wr base wb ps v vb n m F w.heap.size 0 v hs vb := by
 have h0 : Step (fun _ => False) w (w.alloc (.cells #[vb, .int .i64 (m : Nat)] 116)) := (Step.refl _ _).alloc _
 have own1 := own_step own h0 (fun _ _ x => x)
 have K1 := K.step0 h0
 refine ⟨(K1.row own1 h (fun q hq => ?_)).mono (fun k x => .inl x), ?_, own', ?_, fun k x => .inl x, fun k x => .inl x, ?_⟩
 ·exact (K1.each q hq).1.step h (own_ne (K1.each q hq).1.hold.blk own1) (fun k hk x => hF k x ((K1.each q hq).2 k hk))
 ·have hb := heap_alloc_new w (.cells #[vb, .int .i64 (m : Nat)] 116)
  exact hold_of_own (h.at_ hb (own_ne hb own1)) own' hn hm
 ·exact fun q hq k h1 h2 => (hF k h1 ((K.each q hq).2 k h2)).elim
 ·exact (h0.mono (fun _ x => x.elim)).trans (h.mono (fun k x => .inl x))
theorem KeepI.longer {w wr w2 : World} {base wb n m hp j hp2 : Nat} {ps v vb v' vq v2 : Value} {F : Nat → Prop} {hs' : List Hd} (I : KeepI w wr base wb ps v vb n m F hp j v' hs' vq)
  (h1 : HB w2 ⟨hp2, v2, n + j + 1, m⟩) (h2 : w2.ownsRow base 5 1 v2 (n + j + 1) (signs m (n + j + 1))) (h3 : Moves wr vq v2) (h4 : Keeps wr w2 vq (n + j) m) (h5 : Step (fun k => vq.ownBlock = some k) wr w2) :
  KeepI w w2 base wb ps v vb n m F hp2 (j + 1) v' hs' v2 := by
 refine ⟨I.at_.row I.own h5 (fun q hq => h4 q (I.at_.each q hq).1 (I.grp q hq)), h1, h2, ?_, I.mv, ?_, I.step.trans' h5 ?_⟩
 ·intro q hq k hk hk2
  rcases h3 with e | e
  ·obtain ⟨a, b⟩ := I.grp q hq k (e ▸ hk) hk2
   exact ⟨a, by omega⟩
  ·have := e k hk
   have := (I.at_.each q hq).1.lt hk2
   omega
 ·intro k hk
  rcases h3 with e | e
  ·exact I.mq k (e ▸ hk)
  ·exact .inr (Nat.le_trans I.step.size (e k hk))
 ·intro k hk x
  rcases I.mq k x with e | e
  ·exact .inl e
  ·omega
theorem KeepI.app {w wr w0 w1 : World} {base wb n m hp j g cap : Nat} {ps v vb v' vq : Value} {F : Nat → Prop} {hs' : List Hd} (I : KeepI w wr base wb ps v vb n m F hp j v' hs' vq)
  (h0 : Step (fun _ => False) wr w0) (own' : w1.ownsRow base 89 1 (.slice (some ⟨g, 0, none⟩) (hs'.length + 1) cap) (hs'.length + 1) (hs'.map hdPtr ++ [.pointer (some ⟨hp, 0, none⟩)]))
  (hg : (v'.ownBlock = some g ∧ w0.grownBy w1 (some g)) ∨ (w0.heap.size ≤ g ∧ w0.grownBy w1 none)) :
  w1.heap[wb]? = some (.cells #[ps, v'] 70 (0, 0)) ∧
  ∀ w', w' = w1.setCell ⟨wb, 1, none⟩ (.slice (some ⟨g, 0, none⟩) (hs'.length + 1) cap) → KeepI w w' base wb ps v vb n m F hp j (.slice (some ⟨g, 0, none⟩) (hs'.length + 1) cap) (hs' ++ [⟨hp, vq, n + j, m⟩]) vq := by
 obtain ⟨hb, hw⟩ := I.at_.app (q := ⟨hp, vq, n + j, m⟩) h0 own' hg I.last (fun k hk => .inr (I.mq k hk))
 refine ⟨hb, fun w' e => ?_⟩
 obtain ⟨K, hgm, hS⟩ := hw w' e
 have hne : ∀ k, vq.ownBlock = some k → ¬ (k = wb ∨ v'.ownBlock = some k) := fun k hk => by
  obtain ⟨cur, hc⟩ := own_row I.own hk
  rintro (x | x)
  ·rw [x, I.at_.blk] at hc
   cases hc
  ·exact own_blk_ne hc I.at_.own (by decide) x
 have hl := (K.each ⟨hp, vq, n + j, m⟩ (by simp)).1
 refine ⟨K, hl, own_step I.own hS hne, ?_, ?_, I.mq, I.step.trans' hS ?_⟩
 ·intro q hq k h1 h2
  rcases List.mem_append.mp hq with hq | hq
  ·exact I.grp q hq k h1 h2
  ·obtain rfl : q = ⟨hp, vq, n + j, m⟩ := by simpa using hq
   exact ⟨rfl, Nat.le_refl _⟩
 ·intro k hk
  cases hk
  rcases hgm with x | x
  ·exact I.mv g x
  ·exact .inr (Nat.le_trans I.step.size x)
 ·rintro k hk (x | x)
  ·exact .inr (.inl x)
  ·rcases I.mv k x with y | y
   ·exact .inr (.inr y)
   ·omega
end Go.Proofs.YtbpahojchgpdnaaGreatDoor
namespace Go.Proofs.YtbpahojchgpdnaaGreatDoor
open Go.RowKit Go.Bel
theorem Tryz.info89 : (Tryz.prog.info? 89).map (fun i => (i.zero, i.size, i.bytes)) = some (some (.pointer none), 1, 8) := by kernel_rfl
def signed (m i : Nat) (ys : List Value) : List Value := signs m i ++ ys.drop i
theorem signed_set (m i n : Nat) (ys : List Value) (hy : ys.length = n) (hi : i < n) : (signed m i ys).set i (.int .u8 (signV m i : Nat)) = signed m (i + 1) ys := by
 unfold signed
 rw [signs_succ, List.set_append_right (h := by rw [signs_length]; omega), signs_length, Nat.sub_self, List.drop_eq_getElem_cons (by omega), List.append_assoc]
 rfl
theorem signed_zero (m : Nat) (ys : List Value) : signed m 0 ys = ys := by simp [signed, signs]
theorem signed_all (m n : Nat) (ys : List Value) (hy : ys.length = n) : signed m n ys = signs m n := by
 unfold signed
 rw [List.drop_eq_nil_of_le (by omega), List.append_nil]
theorem ne_of_lt' {g N n c : Nat} (h : g < N) (x : (Value.slice (some ⟨g, 0, none⟩) n c).ownBlock = some N) : False := by
 simp only [Value.ownBlock, Option.some.injEq] at x
 omega
theorem keep_ok (base wb n : Nat) (ps v vb : Value) (hs : List Hd) (F : Nat → Prop) (ys : List Value) (w : World) (K : KAt w base wb ps v hs F) (hF : ∀ k, vb.ownBlock = some k → ¬ F k) (own : w.ownsRow base 5 1 vb n ys) (hb : base ≤ w.heap.size) (hn : n ≤ 140737488355000) (hl : hs.length ≤ 25000000000000) :
  Calls Tryz.prog 70 #[.pointer (some ⟨wb, 0, none⟩), vb] w fun r w' => r = .returned (.tuple #[]) ∧ ∃ v' hs', KAt w' base wb ps v' hs' (KF w F vb) ∧ hs'.length = hs.length + 4 ∧ (∀ k, v'.ownBlock = some k → v.ownBlock = some k ∨ w.heap.size ≤ k) ∧ Step (KS wb v vb) w w' := by
 obtain ⟨i0, hi, hz0, hz1, hz2⟩ := info_parts Tryz.info89
 have slc : ∀ {W : World} {e n : Nat} {u : Value} {xs : List Value}, W.ownsRow base e 1 u n xs → ∃ a c, u = .slice a n c := by
  intro W e n u xs h
  obtain ⟨_, ⟨hv, hz⟩ | ⟨g, cap, _, hv, _⟩⟩ := h
  ·exact ⟨none, 0, by rw [hv, hz]⟩
  ·exact ⟨_, _, hv⟩
 obtain ⟨av, cv, hv⟩ := slc K.own
 obtain ⟨ab, cb, hvb⟩ := slc own
 have c1 : w.cell? ⟨wb, 1, none⟩ = some (.slice av hs.length cv) := by rw [← hv]; exact blk_cell K.blk 1 _ rfl
 have HK := hide K
 have HF := hide hF
 have HO := hide own
 have HV := hide hv
 have HVB := hide hvb
 have hyl : ys.length = n := by have := own.1; omega
 clear K hF own hv
 have e := hvb
 clear hvb
 subst e
 obtain ⟨m, hm⟩ : ∃ m : Nat, (m : Int) = (hs.length : Int) + 1 := ⟨hs.length + 1, by simp⟩
 have hm' : m ≤ 281474976710656 := by omega
 obtain ⟨w1, hw1⟩ : ∃ w1, w1 = w.alloc (.cells #[.slice ab n cb, .int .i64 (m : Nat)] 116) := ⟨_, rfl⟩
 have hb1 : w1.heap[w.heap.size]? = some (.cells #[.slice ab n cb, .int .i64 (m : Nat)] 116 (0, 0)) := by rw [hw1]; exact heap_alloc_new w _
 have h01 : Step (fun _ => False) w w1 := by rw [hw1]; exact (Step.refl _ _).alloc _
 have HB1 := hide hb1
 have H01 := hide h01
 clear hb1 h01
 go_enter Tryz.func70, Tryz.ntmps70
 go_wp2_with fail
 rw [← hm, ← hw1]
 have HM := hide hm
 have HW1 := hide hw1
 clear hm hw1
 go_loopg [5] n (fun k i wr => ∃ j : Nat, i = .int .i64 (j : Nat) ∧ k + j = n ∧ wr.ownsRow base 5 1 (.slice ab n cb) n (signed m j ys) ∧ Step (fun k => (Value.slice ab n cb).ownBlock = some k) w1 wr)
 case atStart => exact ⟨0, rfl, by omega, by rw [signed_zero]; exact own_step (unhide HO) (unhide H01) (fun _ _ x => x), Step.refl _ _⟩
 case round =>
  obtain ⟨j, rfl, hk, hown, hst⟩ := hrel
  by_cases hend : j = n
  ·have hnl : ¬ ((j : Int) < (n : Int)) := by omega
   subst hend
   have I0 := KeepI.start (unhide HK) (unhide HF) (unhide HO) (m := m) (by rw [unhide HW1] at hst; exact hst) (by rw [signed_all m j ys hyl] at hown; exact hown) (by omega) hm'
   rw [unhide HV] at I0
   have cw : wr.cell? ⟨wb, 1, none⟩ = some (.slice av hs.length cv) := blk_cell I0.at_.blk 1 _ rfl
   have hbr : base ≤ wr.heap.size := Nat.le_trans hb I0.step.size
   have HI := hide I0
   clear hown hst I0
   go_wp2_with (at_builtin; refine wpList_append_row2 _ rfl _ _ 68 rfl base 89 i0 (.pointer none) 8 Tryz.underlying68 hi hz0 hz1 hz2 rfl _ hs.length (hs.map hdPtr) rfl (by exact ((unhide HI).at_.own).alloc _) ⟨wr.heap.size, 0, none⟩ 1 (.pointer (some ⟨w.heap.size, 0, none⟩)) rfl (cell_of_one (heap_alloc_new wr _)) rfl (by decide) ?c4 (by decide) ?c5 ?_)
   case c4 => omega
   case c5 => omega
   intro g1 cap1 w2 hown2 hgr2
   obtain ⟨hbw, hw⟩ := (unhide HI).app ((Step.refl (fun _ => False) wr).alloc (.cells #[.pointer (some ⟨w.heap.size, 0, none⟩)] 89)) hown2 (by simpa using hgr2)
   have k0 := blk_cell hbw 1 _ rfl
   have kf := blk_free hbw 1
   have HW := hide (hw _ rfl)
   clear hown2 hgr2 hbw hw HI
   go_wp2_with fail
   go_loopg [6, 7] 3 (fun k u6 u7 wx => ∃ (jj hp : Nat) (v' : Value) (hs' : List Hd) (vq : Value), u6 = .pointer (some ⟨hp, 0, none⟩) ∧ u7 = .int .i64 (jj : Nat) ∧ k + jj = 3 ∧ hs'.length = hs.length + 1 + jj ∧ KeepI w wx base wb ps (.slice av hs.length cv) (.slice ab j cb) j m F hp jj v' hs' vq)
   case atStart => exact ⟨0, _, _, _, _, rfl, rfl, rfl, by simp, unhide HW⟩
   case round =>
    obtain ⟨jj, hp, v', hs', vq, rfl, rfl, hkk, hlen, I⟩ := hrel
    by_cases h3 : jj = 3
    ·subst h3
     have HI := hide I
     clear I
     go_wp2_with fail
     go_end0
     have I := unhide HI
     rw [← unhide HV] at I
     exact ⟨rfl, v', hs', I.at_, by omega, I.mv, I.step⟩
    ·have hjl : (jj : Int) < 3 := by omega
     have hbx : base ≤ wr.heap.size := Nat.le_trans hb I.step.size
     have HL := hide (longer_ok hp base (j + jj) m vq wr I.last I.own hbx (by omega))
     have HI := hide I
     clear I
     go_wp2_with fail
     refine (unhide HL).mono ?_
     rintro r w3 ⟨hp2, v2, rfl, _, l1, l2, l3, l4, l5⟩
     have I2 := (unhide HI).longer l1 l2 l3 l4 l5
     obtain ⟨a2, c2, hv2⟩ := slc I2.at_.own
     have cw2 : w3.cell? ⟨wb, 1, none⟩ = some (.slice a2 hs'.length c2) := by rw [← hv2]; exact blk_cell I2.at_.blk 1 _ rfl
     have hb3 : base ≤ w3.heap.size := Nat.le_trans hb I2.step.size
     rw [hv2] at I2
     have HI2 := hide I2
     have HLEN := hide hlen
     clear I2 l1 l2 l3 l4 l5 hv2 HI HL hlen
     go_wp2_with (at_builtin; refine wpList_append_row2 _ rfl _ _ 68 rfl base 89 i0 (.pointer none) 8 Tryz.underlying68 hi hz0 hz1 hz2 rfl _ hs'.length (hs'.map hdPtr) rfl (by exact ((unhide HI2).at_.own).alloc _) ⟨w3.heap.size, 0, none⟩ 1 (.pointer (some ⟨hp2, 0, none⟩)) rfl (cell_of_one (heap_alloc_new w3 _)) rfl (by decide) ?c4 (by decide) ?c5 ?_)
     case c4 => have := unhide HLEN; omega
     case c5 => simp; omega
     intro g3 cap3 w4 hown4 hgr4
     obtain ⟨hbw, hw⟩ := (unhide HI2).app ((Step.refl (fun _ => False) w3).alloc (.cells #[.pointer (some ⟨hp2, 0, none⟩)] 89)) hown4 (by simpa using hgr4)
     have k0 := blk_cell hbw 1 _ rfl
     have kf := blk_free hbw 1
     have HW4 := hide (hw _ rfl)
     clear hown4 hgr4 hbw hw HI2
     go_wp2_with fail
     go_roundg (gk - 1)
     case measure => omega
     case rel => exact ⟨jj + 1, hp2, _, _, _, rfl, rfl, by omega, by have := unhide HLEN; simp; omega, unhide HW4⟩
  ·have hnl : (j : Int) < (n : Int) := by omega
   have hj0 : (0 : Int) ≤ (j : Int) := by omega
   obtain ⟨g, rfl⟩ : ∃ g, ab = some ⟨g, 0, none⟩ := by
    obtain ⟨_, ⟨hv, hz⟩ | ⟨g, cap, _, hv, _⟩⟩ := hown
    ·omega
    ·cases hv; exact ⟨g, rfl⟩
   have hgl : g < w.heap.size := ((unhide HO).lt g rfl).2
   have cm : wr.cell? ⟨w.heap.size, 1, none⟩ = some (.int .i64 (m : Nat)) := hst.cell (blk_cell (unhide HB1) 1 _ rfl) (fun x => ne_of_lt' hgl x)
   have hcj : wr.cell? ⟨g, j, none⟩ = (signed m j ys)[j]? := hown.cellAt j (by omega)
   have hsl : (signed m j ys).length = n := by have := hown.1; omega
   obtain ⟨x, hx⟩ : ∃ x, (signed m j ys)[j]? = some x := ⟨_, List.getElem?_eq_getElem (by omega)⟩
   rw [hx] at hcj
   have hfr : wr.frozen? ⟨g, j, none⟩ = false := hown.frozenAt j
   have HS := hide (hown.stored j (.int .u8 (signV m j : Nat)))
   have HST := hide hst
   clear hown hst hx hsl
   go_wp2_with fail
   refine (sign_any m j _ hm').mono ?_
   rintro e w8 ⟨rfl, rfl⟩
   go_wp2_with fail
   go_roundg (gk - 1)
   case measure => omega
   case rel =>
    obtain ⟨s1, s2⟩ := unhide HS
    rw [signed_set m j n ys hyl (by omega)] at s1
    exact ⟨j + 1, rfl, by omega, s1, (unhide HST).grown s2 (fun k e => .inl (by cases e; rfl))⟩
end Go.Proofs.YtbpahojchgpdnaaGreatDoor
