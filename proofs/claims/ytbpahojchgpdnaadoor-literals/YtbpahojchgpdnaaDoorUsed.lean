/- Proved here: what used does. -/
import Derived.Test.YtbpahojchgpdnaaDoorBitsAll
import Derived.Test.YtbpahojchgpdnaaDoorGround
namespace Go.Proofs.YtbpahojchgpdnaaDoor
open Go.RowKit Go.Bel

theorem sizeB : (Tryd.prog.info? 38).map (·.size) = some 257 := by kernel_rfl
theorem zeroB : Tryd.zeroCells38 = Array.replicate 257 (.bool false) := by kernel_rfl

/- is the byte c one of the list, or 256? -/
def inText (l : List Nat) (c : Nat) : Bool := c == 256 || l.contains c

set_option maxRecDepth 20000 in
set_option maxHeartbeats 400000 in
theorem used_any (s : ByteArray) (w : World) (hs : s.size ≤ 65535) :
    Calls Tryd.prog 14 #[.string s] w fun e w' => ∃ A : Array Value, e = .returned (.agg A) ∧ A.size = 257 ∧ (∀ i, i < 257 → A[i]? = some (.bool (inText (bytesOf s) i))) ∧ Step (fun _ => False) w w' := by
  have hz : ∀ w : World, RowAt (w.alloc (.cells Tryd.zeroCells38 38)) w.heap.size 38 257 (fun _ => .bool false) := by
    intro w
    rw [zeroB]
    exact RowAt.born w _ (by simp) (fun i hi => by simp [hi])
  have HZ := hide hz
  clear hz
  go_enter Tryd.func14, Tryd.ntmps14
  go_wp2_with fail
  go_loopw [4] (fun i wr => ∃ k : Nat, k ≤ s.size ∧ i = .int .i64 (k : Nat) ∧ RowAt wr (w.heap.size + 1) 38 257 (fun c => .bool (((bytesOf s).take k).contains c)) ∧ RowAt wr (w.heap.size) 38 257 (fun _ => .bool false) ∧ Step (fun _ => False) w wr) (fun i _ => s.size - (intOf i).toNat)
  case atStart =>
    refine ⟨0, Nat.zero_le _, rfl, ?_, ?_, ?_⟩
    · have := (unhide HZ) (w.alloc (.cells Tryd.zeroCells38 38))
      simpa using this
    · exact ((unhide HZ) w).alloc _
    · exact ((Step.refl _ _).alloc _).alloc _
  case round =>
    obtain ⟨k, hk, rfl, hr1, hr0, hst⟩ := hrel
    by_cases hlt : k < s.size
    · have hc := s[k].toNat_lt
      have c1 := hr1.cell s[k].toNat (by omega)
      have f1 := hr1.free s[k].toNat
      have H1 := hide hr1
      have H0 := hide hr0
      clear hr1 hr0
      go_wp2_with fail
      go_roundw
      case rel =>
        refine ⟨k + 1, by omega, by go_num, ?_, (unhide H0).other (by simp) _, hst.setNew (by simp) _⟩
        refine ((unhide H1).set s[k].toNat (.bool true)).congr fun i _ => ?_
        rw [bytesOf_take s k hlt]
        by_cases hi : i = s[k].toNat
        · simp [hi]
        · simp [hi]
      case measure => simp [intOf]; omega
    · have c1 := hr1.cell 256 (by omega)
      have f1 := hr1.free 256
      obtain ⟨A, hA, hAs, hAf⟩ := hr1.set 256 (.bool true)
      obtain ⟨A0, hA0, hA0s, _⟩ := hr0.other (a := ⟨w.heap.size + 1, 256, none⟩) (by simp) (.bool true)
      have hone : A.all (·.oneCell') = true := all_one hAs hAf (fun i => by by_cases h : i = 256 <;> simp [h, Value.oneCell'])
      have hst2 : Step (fun _ => False) w (((wr.setCell ⟨w.heap.size + 1, 256, none⟩ (.bool true))).setRow w.heap.size A) := (hst.setNew (p := ⟨w.heap.size + 1, 256, none⟩) (by simp) _).setRowNew (Nat.le_refl _) A
      have hres := setRow_heap (wr.setCell ⟨w.heap.size + 1, 256, none⟩ (.bool true)) w.heap.size A0 A 38 (0, 0) hA0
      have hi : (Tryd.prog.info? 38).map (·.size) = some A.size := by rw [hAs]; exact sizeB
      have HA := hide hA
      have HA0 := hide hA0
      have HR := hide hres
      have HI := hide hi
      have HAF := hide hAf
      have HS := hide hAs
      have HO := hide hone
      clear hA hA0 hres hi hAf hr1 hr0 hone hAs
      go_wp2_with (first
        | refine wpList_load_row rfl 38 (.tmp 3) rfl (w.heap.size + 1) rfl 38 A (0, 0) _ (unhide HA) Tryd.underlying38 rfl (unhide HI) ?_
        | refine wpList_store_row rfl 38 (.tmp 2) (.tmp 16) rfl w.heap.size A rfl rfl 38 A0 (unhide HA0) (unhide HI) (by rw [hA0s]; exact (unhide HS).symm) (unhide HO) ?_)
      refine bodyPost_ret (v := .agg A) (results_cell_row rfl _ _ w.heap.size 38 A (0, 0) _ rfl (unhide HR) Tryd.underlying38 rfl (unhide HI)) rfl ⟨A, rfl, unhide HS, fun i hi => ?_, hst2⟩
      rw [unhide HAF i hi, List.take_of_length_le (by rw [bytesOf_length]; omega)]
      by_cases h6 : i = 256 <;> simp [h6, inText]
end Go.Proofs.YtbpahojchgpdnaaDoor
