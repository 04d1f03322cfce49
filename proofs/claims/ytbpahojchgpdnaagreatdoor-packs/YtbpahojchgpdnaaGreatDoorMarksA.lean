/- Proved here: what alike, mark and rowMark tell of a row of lengths. -/
import Derived.Deep.DeepCutAuto
import Derived.Deep.MidRow
import Derived.Test.YtbpahojchgpdnaaGreatDoorSortC
import Derived.Test.YtbpahojchgpdnaaGreatDoorBkMark
set_option maxRecDepth 20000
set_option maxHeartbeats 4000000
namespace Go.Bel
structure Mk where
 s : Nat
 x : Nat
 m : Nat
def Mk.v (k : Mk) : Value := .agg #[.int .i64 (k.s : Nat), .int .i64 (k.x : Nat), .int .i64 (k.m : Nat)]
def MarkOk (row : List Nat) (a : Nat) (k : Mk) (t : Nat) : Prop := a + t ≤ row.length ∧
  ((k.s = often row a ∧ k.s ≤ 15 ∧ k.x = 0 ∧ k.m = 0 ∧ t = 1) ∨
   (k.s = 16 ∧ k.m = 2 ∧ k.x + 3 = t ∧ k.x < 4 ∧ 0 < a ∧ ∀ i, i < t → often row (a + i) = often row (a - 1)) ∨
   (k.s = 17 ∧ k.m = 3 ∧ k.x + 3 = t ∧ k.x < 8 ∧ ∀ i, i < t → often row (a + i) = 0) ∨
   (k.s = 18 ∧ k.m = 7 ∧ k.x + 11 = t ∧ k.x < 128 ∧ ∀ i, i < t → often row (a + i) = 0))
def Same (row : List Nat) (a same : Nat) : Prop := 1 ≤ same ∧ a + same ≤ row.length ∧ (∀ i, i < same → often row (a + i) = often row a) ∧ (a + same = row.length ∨ often row (a + same) ≠ often row a)
theorem Same.one {row : List Nat} {a s t : Nat} (h : Same row a s) (h' : Same row a t) : s = t := by
 obtain ⟨h1, h2, h3, h4⟩ := h
 obtain ⟨k1, k2, k3, k4⟩ := h'
 rcases Nat.lt_trichotomy s t with y | y | y
 ·rcases h4 with h4 | h4
  ·omega
  ·exact absurd (k3 s y) h4
 ·exact y
 ·rcases k4 with k4 | k4
  ·omega
  ·exact absurd (h3 t y) k4
def MarkIs (row : List Nat) (a : Nat) (k : Mk) (t : Nat) : Prop := ∃ same, Same row a same ∧
  ((often row a = 0 ∧ 11 ≤ same ∧ k = ⟨18, t - 11, 7⟩ ∧ t = min same 138) ∨
   (often row a = 0 ∧ same < 11 ∧ 3 ≤ same ∧ k = ⟨17, t - 3, 3⟩ ∧ t = min same 10) ∨
   (often row a ≠ 0 ∧ 3 ≤ same ∧ (0 < a ∧ often row a = often row (a - 1)) ∧ k = ⟨16, t - 3, 2⟩ ∧ t = min same 6) ∨
   ((same < 3 ∨ (often row a ≠ 0 ∧ ¬ (0 < a ∧ often row a = often row (a - 1)))) ∧ k = ⟨often row a, 0, 0⟩ ∧ t = 1))
theorem MarkIs.one {row : List Nat} {a t t' : Nat} {k k' : Mk} (h : MarkIs row a k t) (h' : MarkIs row a k' t') : k = k' ∧ t = t' := by
 obtain ⟨s, hs, h⟩ := h
 obtain ⟨s', hs', h'⟩ := h'
 have e := hs.one hs'
 subst e
 rcases h with ⟨a1, a2, a3, a4⟩ | ⟨a1, a2, a3, a4, a5⟩ | ⟨a1, a2, a3, a4, a5⟩ | ⟨a1, a2, a3⟩
 ·rcases h' with ⟨b1, b2, b3, b4⟩ | ⟨b1, b2, b3, b4, b5⟩ | ⟨b1, b2, b3, b4, b5⟩ | ⟨b1, b2, b3⟩
  ·have e : t = t' := a4.trans b4.symm
   subst e
   exact ⟨a3.trans b3.symm, rfl⟩
  ·omega
  ·exact absurd a1 b1
  ·rcases b1 with b1 | b1
   ·omega
   ·exact absurd a1 b1.1
 ·rcases h' with ⟨b1, b2, b3, b4⟩ | ⟨b1, b2, b3, b4, b5⟩ | ⟨b1, b2, b3, b4, b5⟩ | ⟨b1, b2, b3⟩
  ·omega
  ·have e : t = t' := a5.trans b5.symm
   subst e
   exact ⟨a4.trans b4.symm, rfl⟩
  ·exact absurd a1 b1
  ·rcases b1 with b1 | b1
   ·omega
   ·exact absurd a1 b1.1
 ·rcases h' with ⟨b1, b2, b3, b4⟩ | ⟨b1, b2, b3, b4, b5⟩ | ⟨b1, b2, b3, b4, b5⟩ | ⟨b1, b2, b3⟩
  ·exact absurd b1 a1
  ·exact absurd b1 a1
  ·have e : t = t' := a5.trans b5.symm
   subst e
   exact ⟨a4.trans b4.symm, rfl⟩
  ·rcases b1 with b1 | b1
   ·omega
   ·exact absurd a3 b1.2
 ·rcases h' with ⟨b1, b2, b3, b4⟩ | ⟨b1, b2, b3, b4, b5⟩ | ⟨b1, b2, b3, b4, b5⟩ | ⟨b1, b2, b3⟩
  ·rcases a1 with a1 | a1
   ·omega
   ·exact absurd b1 a1.1
  ·rcases a1 with a1 | a1
   ·omega
   ·exact absurd b1 a1.1
  ·rcases a1 with a1 | a1
   ·omega
   ·exact absurd b3 a1.2
  ·exact ⟨a2.trans b2.symm, a3.trans b3.symm⟩
theorem MarkOk.pos {row : List Nat} {a t : Nat} {k : Mk} (h : MarkOk row a k t) : 1 ≤ t := by
 rcases h.2 with h | h | h | h <;> omega
theorem MarkOk.sym {row : List Nat} {a t : Nat} {k : Mk} (h : MarkOk row a k t) : k.s ≤ 18 := by
 rcases h.2 with h | h | h | h <;> omega
end Go.Bel
namespace Go.Proofs.YtbpahojchgpdnaaGreatDoor
open Go.RowKit Go.Shelf Go.Lib Go.Sort Go.Bel
theorem alike_ok (g off cap : Nat) (L : List Nat) (w : World) (h : NumsIn w g off L) (hL : 1 ≤ L.length) (hL2 : L.length ≤ 1000) :
  Calls Tryz.prog 209 #[.slice (some ⟨g, off, none⟩) L.length cap] w fun e w' => ∃ t : Nat, e = .returned (.int .i64 (t : Nat)) ∧ 1 ≤ t ∧ t ≤ L.length ∧ (∀ i, i < t → often L i = often L 0) ∧ (t = L.length ∨ often L t ≠ often L 0) ∧ Step (fun _ => False) w w' := by
 have HI := hide h
 have c0 := h 0 (by omega)
 obtain ⟨x0, hx0⟩ : ∃ x, x = often L 0 := ⟨_, rfl⟩
 rw [← hx0, Nat.add_zero] at c0
 rw [← hx0]
 obtain ⟨n, hn⟩ : ∃ n, n = L.length := ⟨_, rfl⟩
 rw [← hn] at hL hL2 ⊢
 have HN := hide (And.intro hx0 hn)
 clear h hx0 hn
 go_enter Tryz.func209, Tryz.ntmps209
 go_wp2_with fail
 go_loopg [7] n (fun kx u7 wr => ∃ k : Nat, u7 = .int .i64 (k : Nat) ∧ k ≤ n ∧ kx = n - k ∧ Hid (∀ i, i < k → often L i = x0) ∧ wr = w)
 case atStart => exact ⟨0, rfl, by omega, rfl, (fun i hi => by omega : ∀ i, i < 0 → often L i = x0), rfl⟩
 case round =>
  obtain ⟨k, rfl, hk, hkx, HK, rfl⟩ := hrel
  by_cases hlt : k < n
  ·have hltz : (k : Int) < (n : Int) := by omega
   have ck := unhide HI k (by have := (unhide HN).2; omega)
   have hk0 : k = 0 → often L k = x0 := fun e => by subst e; exact (unhide HN).1.symm
   obtain ⟨y, hy⟩ : ∃ y, y = often L k := ⟨_, rfl⟩
   rw [← hy] at ck hk0
   have HY := hide hy
   have HK0 := hide hk0
   clear hy hk0
   by_cases he : y = x0
   ·subst he
    go_wp2_with fail
    go_roundg (n - (k + 1))
    case measure => omega
    case rel => exact ⟨k + 1, by go_num, by omega, rfl, (fun i hi => by
     rcases Nat.lt_or_ge i k with h9 | h9
     ·exact unhide HK i h9
     ·have : i = k := by omega
      rw [this]; exact (unhide HY).symm : ∀ i, i < k + 1 → often L i = y), rfl⟩
   ·have hez : ¬ (y : Int) = (x0 : Int) := by omega
    have hkp : 1 ≤ k := by
     rcases Nat.eq_zero_or_pos k with h9 | h9
     ·exact absurd (unhide HK0 h9) he
     ·exact h9
    go_wp2_with fail
    go_ret
    exact ⟨k, rfl, hkp, by omega, unhide HK, .inr (by rw [← unhide HY]; exact he), Step.refl _ _⟩
  ·have hltz : ¬ (k : Int) < (n : Int) := by omega
   have hkn : k = n := by omega
   subst hkn
   go_wp2_with fail
   go_ret
   exact ⟨k, rfl, by omega, by omega, unhide HK, .inl rfl, Step.refl _ _⟩
theorem repMark18 (same : Nat) (w : World) (h3 : 11 ≤ same) (h4 : same ≤ 1000) :
  Calls Tryz.prog 210 #[.agg #[.int .i64 18, .int .i64 11, .int .i64 7], .int .i64 (same : Nat)] w fun e w' => ∃ t : Nat, e = .returned (.tuple #[(⟨18, t - 11, 7⟩ : Mk).v, .int .i64 (t : Nat)]) ∧ 11 ≤ t ∧ t ≤ same ∧ t - 11 < 128 ∧ t = min same 138 ∧ Step (fun _ => False) w w' := by
 have mixed : Tryz.prog.follows .mixedOrders = true := by kernel_rfl
 obtain ⟨t, ht⟩ : ∃ t : Nat, t = if same ≤ 138 then same else 138 := ⟨_, rfl⟩
 have HTM := hide (show t = min same 138 by rw [ht]; split <;> omega)
 have ht1 : 11 ≤ t ∧ t ≤ same ∧ t ≤ 138 := by split at ht <;> omega
 have hmn : min (same : Int) 138 = (t : Int) := by rw [ht]; split <;> omega
 obtain ⟨t1, t2, t3⟩ := ht1
 obtain ⟨x, hx⟩ : ∃ x : Nat, x = t - 11 := ⟨_, rfl⟩
 have hxz : (t : Int) - 11 = (x : Int) := by omega
 have hw : IntKind.i64.wrap 128 = 128 := by rw [IntKind.wrap_i64]; omega
 have hw2 : IntKind.i64.wrap (11 + 128) = 139 := by rw [IntKind.wrap_i64]; omega
 have hw3 : IntKind.i64.wrap (139 - 1) = 138 := by rw [IntKind.wrap_i64]; omega
 have HX := hide hx
 clear ht hx
 go_enter Tryz.func210, Tryz.ntmps210
 go_wp2_with fail
 go_big_region_o
 go_wp2_with fail
 refine bodyPost_ret (v := .tuple #[.agg #[.int .i64 18, .int .i64 (x : Nat), .int .i64 7], .int .i64 (t : Nat)]) (by simp [results, Tryz.results210, go_sem]) rfl ⟨t, ?_, t1, t2, by have := unhide HX; omega, unhide HTM, (((Step.refl _ _).alloc _).alloc _).drew⟩
 rw [← unhide HX]
 rfl
theorem repMark17 (same : Nat) (w : World) (h3 : 3 ≤ same) (h4 : same ≤ 1000) :
  Calls Tryz.prog 210 #[.agg #[.int .i64 17, .int .i64 3, .int .i64 3], .int .i64 (same : Nat)] w fun e w' => ∃ t : Nat, e = .returned (.tuple #[(⟨17, t - 3, 3⟩ : Mk).v, .int .i64 (t : Nat)]) ∧ 3 ≤ t ∧ t ≤ same ∧ t - 3 < 8 ∧ t = min same 10 ∧ Step (fun _ => False) w w' := by
 have mixed : Tryz.prog.follows .mixedOrders = true := by kernel_rfl
 obtain ⟨t, ht⟩ : ∃ t : Nat, t = if same ≤ 10 then same else 10 := ⟨_, rfl⟩
 have HTM := hide (show t = min same 10 by rw [ht]; split <;> omega)
 have ht1 : 3 ≤ t ∧ t ≤ same ∧ t ≤ 10 := by split at ht <;> omega
 have hmn : min (same : Int) 10 = (t : Int) := by rw [ht]; split <;> omega
 obtain ⟨t1, t2, t3⟩ := ht1
 obtain ⟨x, hx⟩ : ∃ x : Nat, x = t - 3 := ⟨_, rfl⟩
 have hxz : (t : Int) - 3 = (x : Int) := by omega
 have hw : IntKind.i64.wrap 8 = 8 := by rw [IntKind.wrap_i64]; omega
 have hw2 : IntKind.i64.wrap (3 + 8) = 11 := by rw [IntKind.wrap_i64]; omega
 have hw3 : IntKind.i64.wrap (11 - 1) = 10 := by rw [IntKind.wrap_i64]; omega
 have HX := hide hx
 clear ht hx
 go_enter Tryz.func210, Tryz.ntmps210
 go_wp2_with fail
 go_big_region_o
 go_wp2_with fail
 refine bodyPost_ret (v := .tuple #[.agg #[.int .i64 17, .int .i64 (x : Nat), .int .i64 3], .int .i64 (t : Nat)]) (by simp [results, Tryz.results210, go_sem]) rfl ⟨t, ?_, t1, t2, by have := unhide HX; omega, unhide HTM, (((Step.refl _ _).alloc _).alloc _).drew⟩
 rw [← unhide HX]
 rfl
theorem repMark16 (same : Nat) (w : World) (h3 : 3 ≤ same) (h4 : same ≤ 1000) :
  Calls Tryz.prog 210 #[.agg #[.int .i64 16, .int .i64 3, .int .i64 2], .int .i64 (same : Nat)] w fun e w' => ∃ t : Nat, e = .returned (.tuple #[(⟨16, t - 3, 2⟩ : Mk).v, .int .i64 (t : Nat)]) ∧ 3 ≤ t ∧ t ≤ same ∧ t - 3 < 4 ∧ t = min same 6 ∧ Step (fun _ => False) w w' := by
 have mixed : Tryz.prog.follows .mixedOrders = true := by kernel_rfl
 obtain ⟨t, ht⟩ : ∃ t : Nat, t = if same ≤ 6 then same else 6 := ⟨_, rfl⟩
 have HTM := hide (show t = min same 6 by rw [ht]; split <;> omega)
 have ht1 : 3 ≤ t ∧ t ≤ same ∧ t ≤ 6 := by split at ht <;> omega
 have hmn : min (same : Int) 6 = (t : Int) := by rw [ht]; split <;> omega
 obtain ⟨t1, t2, t3⟩ := ht1
 obtain ⟨x, hx⟩ : ∃ x : Nat, x = t - 3 := ⟨_, rfl⟩
 have hxz : (t : Int) - 3 = (x : Int) := by omega
 have hw : IntKind.i64.wrap 4 = 4 := by rw [IntKind.wrap_i64]; omega
 have hw2 : IntKind.i64.wrap (3 + 4) = 7 := by rw [IntKind.wrap_i64]; omega
 have hw3 : IntKind.i64.wrap (7 - 1) = 6 := by rw [IntKind.wrap_i64]; omega
 have HX := hide hx
 clear ht hx
 go_enter Tryz.func210, Tryz.ntmps210
 go_wp2_with fail
 go_big_region_o
 go_wp2_with fail
 refine bodyPost_ret (v := .tuple #[.agg #[.int .i64 16, .int .i64 (x : Nat), .int .i64 2], .int .i64 (t : Nat)]) (by simp [results, Tryz.results210, go_sem]) rfl ⟨t, ?_, t1, t2, by have := unhide HX; omega, unhide HTM, (((Step.refl _ _).alloc _).alloc _).drew⟩
 rw [← unhide HX]
 rfl
end Go.Proofs.YtbpahojchgpdnaaGreatDoor
namespace Go.Proofs.YtbpahojchgpdnaaGreatDoor
open Go.RowKit Go.Shelf Go.Lib Go.Sort Go.Bel
theorem NumsIn.drop {w : World} {g off : Nat} {L : List Nat} (h : NumsIn w g off L) (a : Nat) : NumsIn w g (off + a) (L.drop a) := fun i hi => by
 rw [List.length_drop] at hi
 have := h (a + i) (by omega)
 rw [← Nat.add_assoc] at this
 rw [this]
 unfold often
 rw [List.getElem?_drop]
theorem often_drop (L : List Nat) (a i : Nat) : often (L.drop a) i = often L (a + i) := by
 unfold often
 rw [List.getElem?_drop]
theorem rowMark_ok (g off cap a : Nat) (L : List Nat) (w : World) (h : NumsIn w g off L) (ha : a < L.length) (hL : L.length ≤ 1000) (hcap : L.length ≤ cap) (h15 : ∀ i, often L i ≤ 15) (hO : OrderAt w) :
  Calls Tryz.prog 199 #[.slice (some ⟨g, off, none⟩) L.length cap, .int .i64 (a : Nat)] w fun e w' => ∃ (k : Mk) (t : Nat), e = .returned (.tuple #[k.v, .int .i64 (t : Nat)]) ∧ (MarkOk L a k t ∧ MarkIs L a k t) ∧ Step (fun _ => False) w w' := by
 have mixed : Tryz.prog.follows .mixedOrders = true := by kernel_rfl
 have hal := alike_ok g (off + a) (cap - a) (L.drop a) (w.alloc (.cells #[.int .i64 0, .int .i64 0, .int .i64 0] 175)) ((h.step ((Step.refl (fun _ => False) w).alloc _) (fun y => y)).drop a) (by rw [List.length_drop]; omega) (by rw [List.length_drop]; omega)
 rw [List.length_drop] at hal
 obtain ⟨n, hn⟩ : ∃ n, n = L.length := ⟨_, rfl⟩
 rw [← hn] at hal ha hL hcap ⊢
 have HAL := hide hal
 have HI := hide h
 have HO := hide hO
 have HN := hide hn
 have H15 := hide h15
 have hc1 : (a : Int) ≤ (n : Int) := by omega
 have hc2 : (a : Int) ≤ (cap : Int) := by omega
 have hc3 : ¬ (cap : Int) = (a : Int) := by omega
 have hc4 : ¬ cap = a := by omega
 have hn1 : ((n : Int) - (a : Int)).toNat = n - a := by omega
 have hn2 : ((cap : Int) - (a : Int)).toNat = cap - a := by omega
 have hn3 : ((a : Int)).toNat = a := by omega
 clear h hO hal hn h15
 go_enter Tryz.func199, Tryz.ntmps199
 go_upto_region 3 with (go_at_call 209; refine (unhide HAL).mono ?_; rintro e w1 ⟨t, rfl, ht1, ht2, ht3, ht4, hst⟩)
 have hb0 : w1.heap[w.heap.size]? = some (.cells #[.int .i64 0, .int .i64 0, .int .i64 0] 175 (0, 0)) := hst.at_ (heap_alloc_new _ _) (fun y => y)
 have hst1 := ((Step.refl (fun _ => False) w).alloc (.cells #[.int .i64 0, .int .i64 0, .int .i64 0] 175)).trans hst
 obtain ⟨om, ofw, oa⟩ := (unhide HO).step hst1 (fun _ _ y => y) |> fun o => (⟨o.many, o.few, o.again⟩ : _ ∧ _ ∧ _)
 obtain ⟨om0, om1, om2⟩ := om
 obtain ⟨of0, of1, of2⟩ := ofw
 obtain ⟨oa0, oa1, oa2⟩ := oa
 have hI1 := (unhide HI).step hst1 (fun y => y)
 have hN := unhide HN
 have ca := hI1 a (by omega)
 have ht3' : ∀ i, i < t → often L (a + i) = often L a := fun i hi => by
  have := ht3 i hi
  rw [often_drop, often_drop, Nat.add_zero] at this
  exact this
 have HSM := hide (show Same L a t from ⟨ht1, by have := unhide HN; omega, ht3', by
  rw [often_drop, often_drop, Nat.add_zero] at ht4
  rcases ht4 with y | y
  ·exact .inl (by have := unhide HN; omega)
  ·exact .inr y⟩)
 clear ht4
 have hx15 := unhide H15 a
 obtain ⟨x, hx⟩ : ∃ x, x = often L a := ⟨_, rfl⟩
 rw [← hx] at ca ht3' hx15
 have HST := hide hst1
 have HT := hide ht3'
 have HX := hide hx
 have HB0 := hide hb0
 have z0 : (0 : Int) ≤ (a : Int) := by omega
 have z1 : (a : Int) < (n : Int) := by omega
 have hRl := lt_of_block hb0
 obtain ⟨R, hR⟩ : ∃ R, R = w.heap.size := ⟨_, rfl⟩
 rw [← hR] at HB0 hRl ⊢
 have HR := hide hR
 clear hst hst1 hI1 hN ht3 ht3' hx HAL hb0 hR hn1 hn2 hc1 hc2 hc3 hc4
 by_cases x0 : x = 0
 ·subst x0
  by_cases t11 : 11 ≤ t
  ·have t11z : (11 : Int) ≤ (t : Int) := by omega
   have t11y : (t : Int) ≥ 11 := by omega
   go_wp2_with fail
   refine (repMark18 t w1 t11 (by omega)).mono ?_
   rintro e w2 ⟨t2, rfl, b1, b2, b3, b4, hst2⟩
   have B4 := hide b4
   clear b4
   have hb2 := hst2.at_ (unhide HB0) (fun y => y)
   have r0 := blk_cell hb2 0 _ rfl
   have r1 := blk_cell hb2 1 _ rfl
   have r2 := blk_cell hb2 2 _ rfl
   have f0 := blk_free hb2 0
   have f1 := blk_free hb2 1
   have f2 := blk_free hb2 2
   have hs9 : Step (fun _ => False) w (((w2.setCell ⟨R, 0, none⟩ (.int .i64 18)).setCell ⟨R, 1, none⟩ (.int .i64 ((t2 - 11 : Nat) : Int))).setCell ⟨R, 2, none⟩ (.int .i64 7)) := by
    have hR := unhide HR
    exact ((((unhide HST).trans hst2).setNew (by show w.heap.size ≤ R; omega) _).setNew (by show w.heap.size ≤ R; omega) _).setNew (by show w.heap.size ≤ R; omega) _
   obtain ⟨x9, hx9⟩ : ∃ x, x = t2 - 11 := ⟨_, rfl⟩
   rw [← hx9] at b3 hs9 ⊢
   unfold Mk.v
   have HX9 := hide hx9
   have HS9 := hide hs9
   clear hst2 hb2 hx9 hs9
   go_wp2_with fail
   refine bodyPost_ret (v := .tuple #[.agg #[.int .i64 18, .int .i64 (x9 : Nat), .int .i64 7], .int .i64 (t2 : Nat)]) (by simp [results, Tryz.results199, go_sem, r0, r1, r2]) rfl ⟨⟨18, x9, 7⟩, t2, rfl, ?_, unhide HS9⟩
   have hN := unhide HN
   have hx9 := unhide HX9
   exact ⟨⟨by omega, .inr (.inr (.inr ⟨rfl, rfl, by show x9 + 11 = t2; omega, b3, fun i hi => unhide HT i (by omega)⟩))⟩, t, unhide HSM, .inl ⟨(unhide HX).symm, t11, by rw [hx9], unhide B4⟩⟩
  ·have t11z : ¬ (11 : Int) ≤ (t : Int) := by omega
   have t11y : ¬ (t : Int) ≥ 11 := by omega
   by_cases t3 : 3 ≤ t
   ·have t3z : (3 : Int) ≤ (t : Int) := by omega
    have t3y : (t : Int) ≥ 3 := by omega
    go_wp2_with fail
    refine (repMark17 t w1 t3 (by omega)).mono ?_
    rintro e w2 ⟨t2, rfl, b1, b2, b3, b4, hst2⟩
    have B4 := hide b4
    clear b4
    have hb2 := hst2.at_ (unhide HB0) (fun y => y)
    have r0 := blk_cell hb2 0 _ rfl
    have r1 := blk_cell hb2 1 _ rfl
    have r2 := blk_cell hb2 2 _ rfl
    have f0 := blk_free hb2 0
    have f1 := blk_free hb2 1
    have f2 := blk_free hb2 2
    have hs9 : Step (fun _ => False) w (((w2.setCell ⟨R, 0, none⟩ (.int .i64 17)).setCell ⟨R, 1, none⟩ (.int .i64 ((t2 - 3 : Nat) : Int))).setCell ⟨R, 2, none⟩ (.int .i64 3)) := by
     have hR := unhide HR
     exact ((((unhide HST).trans hst2).setNew (by show w.heap.size ≤ R; omega) _).setNew (by show w.heap.size ≤ R; omega) _).setNew (by show w.heap.size ≤ R; omega) _
    obtain ⟨x9, hx9⟩ : ∃ x, x = t2 - 3 := ⟨_, rfl⟩
    rw [← hx9] at b3 hs9 ⊢
    unfold Mk.v
    have HX9 := hide hx9
    have HS9 := hide hs9
    clear hst2 hb2 hx9 hs9
    go_wp2_with fail
    refine bodyPost_ret (v := .tuple #[.agg #[.int .i64 17, .int .i64 (x9 : Nat), .int .i64 3], .int .i64 (t2 : Nat)]) (by simp [results, Tryz.results199, go_sem, r0, r1, r2]) rfl ⟨⟨17, x9, 3⟩, t2, rfl, ?_, unhide HS9⟩
    have hN := unhide HN
    have hx9 := unhide HX9
    exact ⟨⟨by omega, .inr (.inr (.inl ⟨rfl, rfl, by show x9 + 3 = t2; omega, b3, fun i hi => unhide HT i (by omega)⟩))⟩, t, unhide HSM, .inr (.inl ⟨(unhide HX).symm, by omega, t3, by rw [hx9], unhide B4⟩)⟩
   ·have t3z : ¬ (3 : Int) ≤ (t : Int) := by omega
    have t3y : ¬ (t : Int) ≥ 3 := by omega
    have gt1 : decide ((t : Int) ≥ 3) = false := decide_eq_false t3y
    have gt2 : decide ((3 : Int) ≤ (t : Int)) = false := decide_eq_false t3z
    by_cases a0 : 0 < a
    ·have a0z : (0 : Int) < (a : Int) := by omega
     have a0y : (a : Int) > 0 := by omega
     have ga1 : decide ((a : Int) > 0) = true := decide_eq_true a0y
     have ga2 : decide ((0 : Int) < (a : Int)) = true := decide_eq_true a0z
     obtain ⟨m, hm⟩ : ∃ m, m = a - 1 := ⟨_, rfl⟩
     have cm := (unhide HI).step (unhide HST) (fun y => y) m (by have := unhide HN; omega)
     obtain ⟨y, hy⟩ : ∃ y, y = often L m := ⟨_, rfl⟩
     rw [← hy] at cm
     have wm : IntKind.i64.wrap ((a : Int) - 1) = (m : Int) := by rw [IntKind.wrap_i64]; omega
     have wm' : (a : Int) - 1 = (m : Int) := by omega
     have mz0 : (0 : Int) ≤ (m : Int) := by omega
     have mz1 : (m : Int) < (n : Int) := by omega
     have mz2 : ((m : Int)).toNat = m := by omega
     have HM := hide hm
     have HYY := hide hy
     clear hm hy
     by_cases xy : y = 0
     ·subst xy
      have r0 := blk_cell (unhide HB0) 0 _ rfl
      have r1 := blk_cell (unhide HB0) 1 _ rfl
      have r2 := blk_cell (unhide HB0) 2 _ rfl
      have f0 := blk_free (unhide HB0) 0
      have f1 := blk_free (unhide HB0) 1
      have f2 := blk_free (unhide HB0) 2
      have hs9 : Step (fun _ => False) w (((w1.setCell ⟨R, 0, none⟩ (.int .i64 0)).setCell ⟨R, 1, none⟩ (.int .i64 0)).setCell ⟨R, 2, none⟩ (.int .i64 0)) := by
       have hR := unhide HR
       exact (((unhide HST).setNew (by show w.heap.size ≤ R; omega) _).setNew (by show w.heap.size ≤ R; omega) _).setNew (by show w.heap.size ≤ R; omega) _
      have HS9 := hide hs9
      clear hs9
      go_wp2_with fail
      go_big_region_o
      go_wp2_with fail
      refine bodyPost_ret (v := .tuple #[.agg #[.int .i64 0, .int .i64 0, .int .i64 0], .int .i64 1]) (by simp [results, Tryz.results199, go_sem, r0, r1, r2]) rfl ⟨⟨0, 0, 0⟩, 1, rfl, ?_, (unhide HS9).drew⟩
      have hN := unhide HN
      exact ⟨⟨by omega, .inl ⟨unhide HX, by decide, rfl, rfl, rfl⟩⟩, t, unhide HSM, .inr (.inr (.inr ⟨.inl (by omega), by rw [← unhide HX], rfl⟩))⟩
     ·have xyz : ¬ (0 : Int) = (y : Int) := by omega
      have gx1 : ((0 : Int) == (y : Int)) = false := by simp; omega
      have r0 := blk_cell (unhide HB0) 0 _ rfl
      have r1 := blk_cell (unhide HB0) 1 _ rfl
      have r2 := blk_cell (unhide HB0) 2 _ rfl
      have f0 := blk_free (unhide HB0) 0
      have f1 := blk_free (unhide HB0) 1
      have f2 := blk_free (unhide HB0) 2
      have hs9 : Step (fun _ => False) w (((w1.setCell ⟨R, 0, none⟩ (.int .i64 0)).setCell ⟨R, 1, none⟩ (.int .i64 0)).setCell ⟨R, 2, none⟩ (.int .i64 0)) := by
       have hR := unhide HR
       exact (((unhide HST).setNew (by show w.heap.size ≤ R; omega) _).setNew (by show w.heap.size ≤ R; omega) _).setNew (by show w.heap.size ≤ R; omega) _
      have HS9 := hide hs9
      clear hs9
      go_wp2_with fail
      go_big_region_o
      go_wp2_with fail
      refine bodyPost_ret (v := .tuple #[.agg #[.int .i64 0, .int .i64 0, .int .i64 0], .int .i64 1]) (by simp [results, Tryz.results199, go_sem, r0, r1, r2]) rfl ⟨⟨0, 0, 0⟩, 1, rfl, ?_, (unhide HS9).drew⟩
      have hN := unhide HN
      exact ⟨⟨by omega, .inl ⟨unhide HX, by decide, rfl, rfl, rfl⟩⟩, t, unhide HSM, .inr (.inr (.inr ⟨.inl (by omega), by rw [← unhide HX], rfl⟩))⟩
    ·have a0z : ¬ (0 : Int) < (a : Int) := by omega
     have a0y : ¬ (a : Int) > 0 := by omega
     have ga1 : decide ((a : Int) > 0) = false := decide_eq_false a0y
     have ga2 : decide ((0 : Int) < (a : Int)) = false := decide_eq_false a0z
     have r0 := blk_cell (unhide HB0) 0 _ rfl
     have r1 := blk_cell (unhide HB0) 1 _ rfl
     have r2 := blk_cell (unhide HB0) 2 _ rfl
     have f0 := blk_free (unhide HB0) 0
     have f1 := blk_free (unhide HB0) 1
     have f2 := blk_free (unhide HB0) 2
     have hs9 : Step (fun _ => False) w (((w1.setCell ⟨R, 0, none⟩ (.int .i64 0)).setCell ⟨R, 1, none⟩ (.int .i64 0)).setCell ⟨R, 2, none⟩ (.int .i64 0)) := by
      have hR := unhide HR
      exact (((unhide HST).setNew (by show w.heap.size ≤ R; omega) _).setNew (by show w.heap.size ≤ R; omega) _).setNew (by show w.heap.size ≤ R; omega) _
     have HS9 := hide hs9
     clear hs9
     go_wp2_with fail
     go_big_region_o
     go_wp2_with fail
     refine bodyPost_ret (v := .tuple #[.agg #[.int .i64 0, .int .i64 0, .int .i64 0], .int .i64 1]) (by simp [results, Tryz.results199, go_sem, r0, r1, r2]) rfl ⟨⟨0, 0, 0⟩, 1, rfl, ?_, (unhide HS9).drew⟩
     have hN := unhide HN
     exact ⟨⟨by omega, .inl ⟨unhide HX, by decide, rfl, rfl, rfl⟩⟩, t, unhide HSM, .inr (.inr (.inr ⟨.inl (by omega), by rw [← unhide HX], rfl⟩))⟩
 ·have x0z : ¬ (x : Int) = 0 := by omega
  by_cases a0 : 0 < a
  ·have a0z : (0 : Int) < (a : Int) := by omega
   have a0y : (a : Int) > 0 := by omega
   have ga1 : decide ((a : Int) > 0) = true := decide_eq_true a0y
   have ga2 : decide ((0 : Int) < (a : Int)) = true := decide_eq_true a0z
   obtain ⟨m, hm⟩ : ∃ m, m = a - 1 := ⟨_, rfl⟩
   have cm := (unhide HI).step (unhide HST) (fun y => y) m (by have := unhide HN; omega)
   obtain ⟨y, hy⟩ : ∃ y, y = often L m := ⟨_, rfl⟩
   rw [← hy] at cm
   have wm : IntKind.i64.wrap ((a : Int) - 1) = (m : Int) := by rw [IntKind.wrap_i64]; omega
   have wm' : (a : Int) - 1 = (m : Int) := by omega
   have mz0 : (0 : Int) ≤ (m : Int) := by omega
   have mz1 : (m : Int) < (n : Int) := by omega
   have mz2 : ((m : Int)).toNat = m := by omega
   have HM := hide hm
   have HYY := hide hy
   clear hm hy
   by_cases xy : x = y
   ·subst xy
    have HY := HYY
    by_cases t3 : 3 ≤ t
    ·have t3z : (3 : Int) ≤ (t : Int) := by omega
     have t3y : (t : Int) ≥ 3 := by omega
     have gt1 : decide ((t : Int) ≥ 3) = true := decide_eq_true t3y
     have gt2 : decide ((3 : Int) ≤ (t : Int)) = true := decide_eq_true t3z
     go_wp2_with fail
     go_big_region_o
     go_wp2_with fail
     refine (repMark16 t w1.drew t3 (by omega)).mono ?_
     rintro e w2 ⟨t2, rfl, b1, b2, b3, b4, hst2⟩
     have B4 := hide b4
     clear b4
     have hb2 := hst2.at_ (unhide HB0) (fun y => y)
     have r0 := blk_cell hb2 0 _ rfl
     have r1 := blk_cell hb2 1 _ rfl
     have r2 := blk_cell hb2 2 _ rfl
     have f0 := blk_free hb2 0
     have f1 := blk_free hb2 1
     have f2 := blk_free hb2 2
     have hs9 : Step (fun _ => False) w (((w2.setCell ⟨R, 0, none⟩ (.int .i64 16)).setCell ⟨R, 1, none⟩ (.int .i64 ((t2 - 3 : Nat) : Int))).setCell ⟨R, 2, none⟩ (.int .i64 2)) := by
      have hR := unhide HR
      exact (((((unhide HST).drew).trans hst2).setNew (by show w.heap.size ≤ R; omega) _).setNew (by show w.heap.size ≤ R; omega) _).setNew (by show w.heap.size ≤ R; omega) _
     obtain ⟨x9, hx9⟩ : ∃ x, x = t2 - 3 := ⟨_, rfl⟩
     rw [← hx9] at b3 hs9 ⊢
     unfold Mk.v
     have HX9 := hide hx9
     have HS9 := hide hs9
     clear hst2 hb2 hx9 hs9
     go_wp2_with fail
     refine bodyPost_ret (v := .tuple #[.agg #[.int .i64 16, .int .i64 (x9 : Nat), .int .i64 2], .int .i64 (t2 : Nat)]) (by simp [results, Tryz.results199, go_sem, r0, r1, r2]) rfl ⟨⟨16, x9, 2⟩, t2, rfl, ?_, unhide HS9⟩
     have hN := unhide HN
     have hx9 := unhide HX9
     have hm := unhide HM
     refine ⟨⟨by omega, .inr (.inl ⟨rfl, rfl, by show x9 + 3 = t2; omega, b3, by omega, fun i hi => by
      rw [unhide HT i (by omega), show a - 1 = m by omega]
      exact unhide HY⟩)⟩, t, unhide HSM, .inr (.inr (.inl ⟨by rw [← unhide HX]; exact x0, t3, ⟨a0, ?_⟩, by rw [hx9], unhide B4⟩))⟩
     rw [show a - 1 = m by omega, ← unhide HX]
     exact unhide HY
    ·have t3z : ¬ (3 : Int) ≤ (t : Int) := by omega
     have t3y : ¬ (t : Int) ≥ 3 := by omega
     have gt1 : decide ((t : Int) ≥ 3) = false := decide_eq_false t3y
     have gt2 : decide ((3 : Int) ≤ (t : Int)) = false := decide_eq_false t3z
     have r0 := blk_cell (unhide HB0) 0 _ rfl
     have r1 := blk_cell (unhide HB0) 1 _ rfl
     have r2 := blk_cell (unhide HB0) 2 _ rfl
     have f0 := blk_free (unhide HB0) 0
     have f1 := blk_free (unhide HB0) 1
     have f2 := blk_free (unhide HB0) 2
     have hs9 : Step (fun _ => False) w (((w1.setCell ⟨R, 0, none⟩ (.int .i64 (x : Nat))).setCell ⟨R, 1, none⟩ (.int .i64 0)).setCell ⟨R, 2, none⟩ (.int .i64 0)) := by
      have hR := unhide HR
      exact (((unhide HST).setNew (by show w.heap.size ≤ R; omega) _).setNew (by show w.heap.size ≤ R; omega) _).setNew (by show w.heap.size ≤ R; omega) _
     have HS9 := hide hs9
     clear hs9
     go_wp2_with fail
     go_big_region_o
     go_wp2_with fail
     refine bodyPost_ret (v := .tuple #[.agg #[.int .i64 (x : Nat), .int .i64 0, .int .i64 0], .int .i64 1]) (by simp [results, Tryz.results199, go_sem, r0, r1, r2]) rfl ⟨⟨x, 0, 0⟩, 1, rfl, ?_, (unhide HS9).drew⟩
     have hN := unhide HN
     exact ⟨⟨by omega, .inl ⟨unhide HX, hx15, rfl, rfl, rfl⟩⟩, t, unhide HSM, .inr (.inr (.inr ⟨.inl (by omega), by rw [← unhide HX], rfl⟩))⟩
   ·have xyz : ¬ (x : Int) = (y : Int) := by omega
    have gx1 : ((x : Int) == (y : Int)) = false := by simp; omega
    have r0 := blk_cell (unhide HB0) 0 _ rfl
    have r1 := blk_cell (unhide HB0) 1 _ rfl
    have r2 := blk_cell (unhide HB0) 2 _ rfl
    have f0 := blk_free (unhide HB0) 0
    have f1 := blk_free (unhide HB0) 1
    have f2 := blk_free (unhide HB0) 2
    have hs9 : Step (fun _ => False) w (((w1.setCell ⟨R, 0, none⟩ (.int .i64 (x : Nat))).setCell ⟨R, 1, none⟩ (.int .i64 0)).setCell ⟨R, 2, none⟩ (.int .i64 0)) := by
     have hR := unhide HR
     exact (((unhide HST).setNew (by show w.heap.size ≤ R; omega) _).setNew (by show w.heap.size ≤ R; omega) _).setNew (by show w.heap.size ≤ R; omega) _
    have HS9 := hide hs9
    clear hs9
    go_wp2_with fail
    go_big_region_o
    go_wp2_with fail
    refine bodyPost_ret (v := .tuple #[.agg #[.int .i64 (x : Nat), .int .i64 0, .int .i64 0], .int .i64 1]) (by simp [results, Tryz.results199, go_sem, r0, r1, r2]) rfl ⟨⟨x, 0, 0⟩, 1, rfl, ?_, (unhide HS9).drew⟩
    have hN := unhide HN
    exact ⟨⟨by omega, .inl ⟨unhide HX, hx15, rfl, rfl, rfl⟩⟩, t, unhide HSM, .inr (.inr (.inr ⟨.inr ⟨by rw [← unhide HX]; exact x0, fun z => xy (by rw [unhide HX, unhide HYY, unhide HM]; exact z.2)⟩, by rw [← unhide HX], rfl⟩))⟩
  ·have a0z : ¬ (0 : Int) < (a : Int) := by omega
   have a0y : ¬ (a : Int) > 0 := by omega
   have ga1 : decide ((a : Int) > 0) = false := decide_eq_false a0y
   have ga2 : decide ((0 : Int) < (a : Int)) = false := decide_eq_false a0z
   have r0 := blk_cell (unhide HB0) 0 _ rfl
   have r1 := blk_cell (unhide HB0) 1 _ rfl
   have r2 := blk_cell (unhide HB0) 2 _ rfl
   have f0 := blk_free (unhide HB0) 0
   have f1 := blk_free (unhide HB0) 1
   have f2 := blk_free (unhide HB0) 2
   have hs9 : Step (fun _ => False) w (((w1.setCell ⟨R, 0, none⟩ (.int .i64 (x : Nat))).setCell ⟨R, 1, none⟩ (.int .i64 0)).setCell ⟨R, 2, none⟩ (.int .i64 0)) := by
    have hR := unhide HR
    exact (((unhide HST).setNew (by show w.heap.size ≤ R; omega) _).setNew (by show w.heap.size ≤ R; omega) _).setNew (by show w.heap.size ≤ R; omega) _
   have HS9 := hide hs9
   clear hs9
   go_wp2_with fail
   go_big_region_o
   go_wp2_with fail
   refine bodyPost_ret (v := .tuple #[.agg #[.int .i64 (x : Nat), .int .i64 0, .int .i64 0], .int .i64 1]) (by simp [results, Tryz.results199, go_sem, r0, r1, r2]) rfl ⟨⟨x, 0, 0⟩, 1, rfl, ?_, (unhide HS9).drew⟩
   have hN := unhide HN
   exact ⟨⟨by omega, .inl ⟨unhide HX, hx15, rfl, rfl, rfl⟩⟩, t, unhide HSM, .inr (.inr (.inr ⟨.inr ⟨by rw [← unhide HX]; exact x0, fun z => a0 z.1⟩, by rw [← unhide HX], rfl⟩))⟩
end Go.Proofs.YtbpahojchgpdnaaGreatDoor
namespace Go.Bel
inductive TellsFrom (row : List Nat) : Nat → List Mk → Nat → Prop
 | nil (a : Nat) : TellsFrom row a [] a
 | cons (a : Nat) (k : Mk) (t : Nat) (l : List Mk) (b : Nat) (h : MarkOk row a k t) (hi : MarkIs row a k t) (r : TellsFrom row (a + t) l b) : TellsFrom row a (k :: l) b
theorem TellsFrom.snoc {row : List Nat} {a b t : Nat} {k : Mk} {l : List Mk} (h : TellsFrom row a l b) (hk : MarkOk row b k t) (hi : MarkIs row b k t) : TellsFrom row a (l ++ [k]) (b + t) := by
 induction h with
 | nil a => exact .cons a k t [] _ hk hi (.nil _)
 | cons a k' t' l b hk' hi' r ih => exact .cons a k' t' _ _ hk' hi' (ih hk hi)
theorem TellsFrom.nil_eq {row : List Nat} {a b : Nat} (h : TellsFrom row a [] b) : a = b := by cases h; rfl
theorem TellsFrom.count {row : List Nat} {a b : Nat} {l : List Mk} (h : TellsFrom row a l b) : a + l.length ≤ b := by
 induction h with
 | nil a => simp
 | cons a k t l b hk hi r ih => have := hk.pos; simp; omega
theorem TellsFrom.sym {row : List Nat} {a b : Nat} {l : List Mk} (h : TellsFrom row a l b) : ∀ k ∈ l, k.s ≤ 18 ∧ k.x < 2 ^ k.m ∧ k.m ≤ 7 := by
 induction h with
 | nil a => intro k hk; simp at hk
 | cons a k' t l b hk hi r ih =>
  intro k hk2
  rcases List.mem_cons.1 hk2 with rfl | hk2
  ·refine ⟨hk.sym, ?_⟩
   rcases hk.2 with ⟨_, _, h2, h3, _⟩ | ⟨_, h2, _, h3, _⟩ | ⟨_, h2, _, h3, _⟩ | ⟨_, h2, _, h3, _⟩
   ·rw [h2, h3]; decide
   ·rw [h2]; exact ⟨h3, by omega⟩
   ·rw [h2]; exact ⟨h3, by omega⟩
   ·rw [h2]; exact ⟨h3, by omega⟩
  ·exact ih k hk2
end Go.Bel
namespace Go.Proofs.YtbpahojchgpdnaaGreatDoor
open Go.RowKit Go.Shelf Go.Lib Go.Sort Go.Bel
def cellsM : List Mk → List Value
 | [] => []
 | k :: l => .int .i64 (k.s : Nat) :: .int .i64 (k.x : Nat) :: .int .i64 (k.m : Nat) :: cellsM l
theorem cellsM_append : ∀ l r : List Mk, cellsM (l ++ r) = cellsM l ++ cellsM r
 | [], r => rfl
 | p :: l, r => by simp [cellsM, cellsM_append l r]
theorem cellsM_one : ∀ (l : List Mk) (u : Value), u ∈ cellsM l → u.oneCell' = true
 | [], u, h => by simp [cellsM] at h
 | p :: l, u, h => by
  simp only [cellsM, List.mem_cons] at h
  rcases h with rfl | rfl | rfl | h
  ·rfl
  ·rfl
  ·rfl
  ·exact cellsM_one l u h
theorem infoMk : (Tryz.prog.info? 175).map (fun i => (i.zero, i.size, i.bytes)) = some (some (.agg #[.int .i64 0, .int .i64 0, .int .i64 0]), 3, 24) := by kernel_rfl
theorem underMk : Tryz.prog.underlying 229 = some (.slice 175) := by kernel_rfl
structure MRow (B : Nat) (w wr : World) (v : Value) (l : List Mk) : Prop where
 row : wr.ownsRow B 175 3 v l.length (cellsM l)
 st : Step (fun _ => False) w wr
theorem rowMarks_ok (g off cap : Nat) (L : List Nat) (w : World) (h : NumsIn w g off L) (hL : L.length ≤ 1000) (hcap : L.length ≤ cap) (h15 : ∀ i, often L i ≤ 15) (hO : OrderAt w) :
  Calls Tryz.prog 185 #[.slice (some ⟨g, off, none⟩) L.length cap] w fun e w' => ∃ v l, e = .returned v ∧ MRow w.heap.size w w' v l ∧ TellsFrom L 0 l L.length := by
 obtain ⟨i0, hi, hz0, hz1, hz2'⟩ := info_parts infoMk
 have hm := fun (a : Nat) (ha : a < L.length) (wr : World) (hs : Step (fun _ => False) w wr) => rowMark_ok g off cap a L wr (h.step hs (fun y => y)) ha hL hcap h15 (hO.step hs (fun _ _ y => y))
 obtain ⟨n, hn⟩ : ∃ n, n = L.length := ⟨_, rfl⟩
 rw [← hn] at hm hL ⊢
 have HM := hide hm
 have HLN := hide hn
 obtain ⟨B, hB⟩ : ∃ B, B = w.heap.size := ⟨_, rfl⟩
 rw [← hB]
 have HB := hide hB
 clear h hm hO h15 hn hcap hB
 go_enter Tryz.func185, Tryz.ntmps185
 go_wp2_with fail
 go_loopg [3, 4] n (fun kx u3 u4 wr => ∃ (a : Nat) (v : Value) (l : List Mk), u4 = .int .i64 (a : Nat) ∧ u3 = v ∧ a ≤ n ∧ kx = n - a ∧ Hid (MRow B w wr v l) ∧ Hid (TellsFrom L 0 l a) ∧ B ≤ wr.heap.size)
 case atStart => exact ⟨0, _, [], rfl, rfl, by omega, rfl, ⟨⟨rfl, .inl ⟨rfl, rfl⟩⟩, Step.refl _ _⟩, .nil 0, by have := unhide HB; omega⟩
 case round =>
  obtain ⟨a, v, l, rfl, rfl, ha, hkx, HR, HT, hBw⟩ := hrel
  by_cases hlt : a < n
  ·have hltz : (a : Int) < (n : Int) := by omega
   have hcl := unhide HM a hlt wr (unhide HR).st
   have HCL := hide hcl
   clear hcl
   have hcnt := (unhide HT).count
   go_wp2_with (first
    | (go_at_call 199; refine (unhide HCL).mono ?_; rintro e w1 ⟨k, t, rfl, ⟨hk, hki⟩, hst⟩; have HKI := hide hki; clear hki; unfold Mk.v; have hr1 := ownsRow_far (unhide HR).row hst (fun _ _ y => y); have hw1 := hst.size; have hkp := hk.pos; have hkl := hk.1; have HK := hide hk; have HST1 := hide ((unhide HR).st.trans hst); have HR1 := hide hr1; clear hk hst hr1 HCL)
    | (at_builtin; refine wpList_append_row _ rfl _ _ 229 rfl B 175 i0 _ 3 24 underMk hi hz0 hz1 hz2' rfl (by decide) _ l.length (cellsM l) rfl (by exact ((unhide HR1).alloc _).alloc _) ⟨w1.heap.size + 1, 0, none⟩ 1 1 (cellsM [k]) rfl rfl ?c1 (cellsM_one _) (by decide) ?c3 ?c4 ?c5 ?_))
   case c1 =>
    intro i u hu
    have h9 := heap_alloc_new (w1.alloc (.cells #[.int .i64 (k.s : Nat), .int .i64 (k.x : Nat), .int .i64 (k.m : Nat)] 175)) (.cells #[.int .i64 (k.s : Nat), .int .i64 (k.x : Nat), .int .i64 (k.m : Nat)] 175)
    rw [World.size_alloc] at h9
    have h8 := blk_cell h9 i u (by rw [← hu]; simp [cellsM])
    rw [show (Addr.add ⟨w1.heap.size + 1, 0, none⟩ i) = ⟨w1.heap.size + 1, i, none⟩ by simp [Addr.add]; omega]
    exact h8
   case c3 => unfold maxLen; omega
   case c4 => omega
   case c5 => simp; omega
   intro g' cap' w5 hown hgr hg
   have hs4 : Step (fun _ => False) w1 ((w1.alloc (.cells #[.int .i64 (k.s : Nat), .int .i64 (k.x : Nat), .int .i64 (k.m : Nat)] 175)).alloc (.cells #[.int .i64 (k.s : Nat), .int .i64 (k.x : Nat), .int .i64 (k.m : Nat)] 175)) := ((Step.refl _ _).alloc _).alloc _
   have hs5 : Step (fun _ => False) w w5 := ((unhide HST1).trans hs4).grown hgr (fun b e => .inr (by
    have h1 := ((unhide HR1).lt b e).1
    have h2 := unhide HB
    omega))
   have hz5 := hgr.size
   have hz4 := hs4.size
   have N1 : Hid (MRow B w w5 (.slice (some ⟨g', 0, none⟩) (l.length + 1) cap') (l ++ [k])) := ⟨by rw [List.length_append, cellsM_append]; exact hown, hs5⟩
   have N2 : Hid (TellsFrom L 0 (l ++ [k]) (a + t)) := (unhide HT).snoc (unhide HK) (unhide HKI)
   have htn : a + t ≤ n := by have := unhide HLN; omega
   have hwt : IntKind.i64.wrap ((a : Int) + (t : Int)) = ((a + t : Nat) : Int) := by rw [IntKind.wrap_i64]; omega
   clear hown hgr hg hs4 hs5 HST1 HR1 HK HR HT
   go_wp2_with fail
   go_roundg (n - (a + t))
   case measure => omega
   case rel => exact ⟨a + t, _, l ++ [k], by first | rfl | go_num, rfl, by omega, rfl, N1, N2, by omega⟩
  ·have hltz : ¬ (a : Int) < (n : Int) := by omega
   have han : a = n := by omega
   subst han
   go_wp2_with fail
   go_ret
   exact ⟨_, rfl, l, unhide HR, unhide HT⟩
end Go.Proofs.YtbpahojchgpdnaaGreatDoor
namespace Go.Proofs.YtbpahojchgpdnaaGreatDoor
open Go.RowKit Go.Shelf Go.Lib Go.Sort Go.Bel
theorem told_ok (g off cap least : Nat) (L : List Nat) (w : World) (h : NumsIn w g off L) (hl : least ≤ L.length) (hL : L.length ≤ 1000) (hcap : L.length ≤ cap) :
  Calls Tryz.prog 184 #[.slice (some ⟨g, off, none⟩) L.length cap, .int .i64 (least : Nat)] w fun e w' => ∃ n : Nat, e = .returned (.slice (some ⟨g, off, none⟩) n cap) ∧ least ≤ n ∧ n ≤ L.length ∧ (∀ i, n ≤ i → often L i = 0) ∧ (least < n → often L (n - 1) ≠ 0) ∧ Step (fun _ => False) w w' := by
 have HI := hide h
 obtain ⟨N, hN⟩ : ∃ n, n = L.length := ⟨_, rfl⟩
 rw [← hN] at hl hL hcap ⊢
 have HN := hide hN
 clear h hN
 go_enter Tryz.func184, Tryz.ntmps184
 go_wp2_with fail
 go_loopg [5] N (fun kx u5 wr => ∃ n : Nat, u5 = .int .i64 (n : Nat) ∧ least ≤ n ∧ n ≤ N ∧ kx = n ∧ Hid (∀ i, n ≤ i → often L i = 0) ∧ Hid (Step (fun _ => False) w wr))
 case atStart => exact ⟨N, rfl, hl, by omega, rfl, (fun i hi => (by unfold often; rw [List.getElem?_eq_none (by have := unhide HN; omega)]; rfl) : ∀ i, N ≤ i → often L i = 0), Step.refl _ _⟩
 case round =>
  obtain ⟨n, rfl, h1, h2, hkx, HZ, HS⟩ := hrel
  by_cases hlt : least < n
  ·have hltz : (least : Int) < (n : Int) := by omega
   have hltd : decide ((n : Int) > (least : Int)) = true := decide_eq_true hltz
   have hltd2 : decide ((least : Int) < (n : Int)) = true := decide_eq_true hltz
   obtain ⟨m, hm⟩ : ∃ m, m = n - 1 := ⟨_, rfl⟩
   have cm := (unhide HI).step (unhide HS) (fun y => y) m (by have := unhide HN; omega)
   obtain ⟨y, hy⟩ : ∃ y, y = often L m := ⟨_, rfl⟩
   rw [← hy] at cm
   have wm : IntKind.i64.wrap ((n : Int) - 1) = (m : Int) := by rw [IntKind.wrap_i64]; omega
   have mz0 : (0 : Int) ≤ (m : Int) := by omega
   have mz1 : (m : Int) < (N : Int) := by omega
   have mz2 : ((m : Int)).toNat = m := by omega
   have HM := hide (And.intro hm hy)
   clear hm hy
   by_cases hy0 : y = 0
   ·subst hy0
    go_wp2_with fail
    go_roundg m
    case measure => have := (unhide HM).1; omega
    case rel =>
     obtain ⟨q1, q2⟩ := unhide HM
     exact ⟨m, by first | rfl | go_num, by omega, by omega, rfl, (fun i hi => (by
      rcases Nat.lt_or_ge i n with h9 | h9
      ·rw [show i = m by omega]; exact q2.symm
      ·exact unhide HZ i h9) : ∀ i, m ≤ i → often L i = 0), unhide HS⟩
   ·have hyz : ¬ (y : Int) = 0 := by omega
    have hyd : ((y : Int) == 0) = false := by simp; omega
    go_wp2_with fail
    go_ret
    exact ⟨n, rfl, h1, h2, unhide HZ, fun _ => by rw [← (unhide HM).1, ← (unhide HM).2]; exact hy0, unhide HS⟩
  ·have hltz : ¬ (least : Int) < (n : Int) := by omega
   have hltd : decide ((n : Int) > (least : Int)) = false := decide_eq_false hltz
   have hltd2 : decide ((least : Int) < (n : Int)) = false := decide_eq_false hltz
   go_wp2_with fail
   go_ret
   exact ⟨n, rfl, h1, h2, unhide HZ, fun y => absurd y hlt, unhide HS⟩
theorem underOrd : Tryz.prog.underlying 216 = some (.array 19 3) := by kernel_rfl
theorem infoOrd : (Tryz.prog.info? 216).map (·.size) = some 19 := by kernel_rfl
theorem index_ord (cs : List Value) (k : Nat) (v : Value) (hk : k < 19) (hv : cs[k]? = some v) (w : World) : (Instr.index 216 (.agg cs.toArray) (.int .i64 (k : Nat))).run Tryz.prog w = .ok v w := by
 obtain ⟨i0, hi, _, hz1, _⟩ := info_parts Tryz.info3
 have h2 : (Go.sizeOf 3).run Tryz.prog w = .ok 1 w := by
  simp [Go.sizeOf, typeInfo, hi, hz1]
 have h3 : (0 : Int) ≤ (k : Int) ∧ (k : Int) < (19 : Nat) := by omega
 simp [Instr.index, run_underlying underOrd, asIntOf, h3, h2, part, hv, go_sem]
 intro h
 omega
theorem ord_lt : ∀ k, k < 19 → orderList[k]?.getD 0 < 19 := by decide
theorem ordered_ok (g off cap : Nat) (L : List Nat) (w : World) (h : NumsIn w g off L) (hl : L.length = 19) (hO : OrderAt w) (hgl : g < w.heap.size) :
  Calls Tryz.prog 187 #[.slice (some ⟨g, off, none⟩) 19 cap] w fun e w' => ∃ R, e = .returned (.slice (some ⟨R, 0, none⟩) 19 19) ∧ w.heap.size ≤ R ∧ CntAt w' R 19 (fun i => often L (orderList[i]?.getD 0)) ∧ Step (fun _ => False) w w' := by
 obtain ⟨i0, hi, hz0, hz1, hz2⟩ := info_parts Tryz.info3
 have HI := hide h
 have HO := hide hO
 clear h hO
 go_enter Tryz.func187, Tryz.ntmps187
 obtain ⟨cs, hcs⟩ : ∃ cs : List Value, cs = orderList.map fun x => .int .i64 (x : Nat) := ⟨_, rfl⟩
 have hcl : cs.length = 19 := by rw [hcs]; rfl
 have hcg : ∀ k, k < 19 → cs[k]? = some (.int .i64 ((orderList[k]?.getD 0 : Nat) : Int)) := fun k hk => by
  rw [hcs, List.getElem?_map, List.getElem?_eq_getElem (show k < orderList.length from hk)]
  rfl
 have hin : (Tryz.prog.info? 216).map (·.size) = some cs.length := by rw [hcl]; exact infoOrd
 have HCG := hide hcg
 have HIN := hide hin
 have HCL := hide hcl
 clear hcs hcl hcg hin
 go_wp2_with (first
  | (at_make; refine wpList_make_full _ rfl _ _ 57 rfl w.heap.size 3 i0 (.int .i64 0) 1 Tryz.underlying57 hi hz0 hz1 .i64 .i64 _ _ 19 rfl rfl rfl rfl (by rw [hz2]; omega) (by unfold maxLen; omega) (Nat.le_refl _) ?_; intro w1 hown1 hgr1; have hst1 := (Step.refl (fun _ => False) w).grown hgr1 (fun k e => by cases e); have ord := (unhide HO).step hst1 (fun _ _ y => y))
  | (refine wpList_load_mid rfl 216 (.global 0) rfl 0 0 rfl cs (.array 19 3) ?rg underOrd rfl (unhide HIN) ?_))
 case rg =>
  intro j v hj
  have hj9 := (List.getElem?_eq_some_iff.1 hj).1
  rw [unhide HCL] at hj9
  rw [unhide HCG j hj9] at hj
  rw [Nat.zero_add, ← hj]
  exact ord.order j hj9
 have hc1 : CntAt w1 w.heap.size 19 (fun _ => 0) := cnt_made hown1
 obtain ⟨R, hR⟩ : ∃ R, R = w.heap.size := ⟨_, rfl⟩
 rw [← hR] at hc1 ⊢
 have HST1 := hide hst1
 have HC1 := hide (show CntAt w1 R 19 (fun i => if i < 0 then often L (orderList[i]?.getD 0) else 0) from hc1.congr (fun i hi => rfl))
 have HR := hide hR
 have hgR : ¬ g = R := by omega
 clear hown1 hgr1 hst1 ord hc1 hR
 go_wp2_with fail
 go_loopg [8] 19 (fun kx u8 wr => ∃ k : Nat, u8 = .int .i64 (k : Nat) ∧ k ≤ 19 ∧ kx = 19 - k ∧ Hid (CntAt wr R 19 (fun i => if i < k then often L (orderList[i]?.getD 0) else 0)) ∧ Hid (Step (fun _ => False) w wr))
 case atStart => exact ⟨0, rfl, by omega, rfl, HC1, HST1⟩
 case round =>
  clear HC1 HST1
  obtain ⟨k, rfl, hk, hkx, HC, HS⟩ := hrel
  by_cases hlt : k < 19
  ·have hltz : (k : Int) < 19 := by omega
   obtain ⟨s, hs⟩ : ∃ s, s = orderList[k]?.getD 0 := ⟨_, rfl⟩
   have hs19 : s < 19 := by rw [hs]; exact ord_lt k hlt
   have cs9 := (unhide HI).step (unhide HS) (fun y => y) s (by omega)
   have cR := (unhide HC).cell k hlt
   have fR := (unhide HC).free k
   obtain ⟨y, hy⟩ : ∃ y, y = often L s := ⟨_, rfl⟩
   rw [← hy] at cs9
   have hix := index_ord cs k (.int .i64 (s : Nat)) hlt (by rw [hs]; exact unhide HCG k hlt)
   have ek : ((k : Int)).toNat = k := by omega
   have pk : (0 : Int) ≤ (k : Int) := by omega
   have es : ((s : Int)).toNat = s := by omega
   have ps : (0 : Int) ≤ (s : Int) := by omega
   have qs : (s : Int) < 19 := by omega
   have hnew : CntAt (wr.setCell ⟨R, k, none⟩ (.int .i64 (y : Nat))) R 19 (fun i => if i < k + 1 then often L (orderList[i]?.getD 0) else 0) := by
    refine ((unhide HC).set k (.int .i64 (y : Nat))).congr (fun i hi => ?_)
    dsimp only
    by_cases e : i = k
    ·subst e
     rw [if_pos rfl, if_pos (by omega), hy, hs]
    ·rw [if_neg e]
     by_cases e2 : i < k
     ·rw [if_pos e2, if_pos (by omega)]
     ·rw [if_neg e2, if_neg (by omega)]
   have hsnew := (unhide HS).setNew (p := ⟨R, k, none⟩) (by show w.heap.size ≤ R; have := unhide HR; omega) (.int .i64 (y : Nat))
   have HN1 := hide hnew
   have HN2 := hide hsnew
   clear hs hy hnew hsnew HC HS
   go_wp2_with fail
   go_roundg (19 - (k + 1))
   case measure => omega
   case rel => exact ⟨k + 1, by go_num, by omega, rfl, HN1, HN2⟩
  ·have hltz : ¬ (k : Int) < 19 := by omega
   have hk9 : k = 19 := by omega
   subst hk9
   go_wp2_with fail
   go_ret
   exact ⟨R, rfl, by have := unhide HR; omega, (unhide HC).congr (fun i hi => by dsimp only; rw [if_pos hi]), unhide HS⟩
end Go.Proofs.YtbpahojchgpdnaaGreatDoor
namespace Go.Bel
def cntM (l : List Mk) : List Nat := (List.range 19).map fun i => (l.map Mk.s).count i
theorem cntM_length (l : List Mk) : (cntM l).length = 19 := by simp [cntM]
theorem cntM_get (l : List Mk) (i : Nat) (h : i < 19) : often (cntM l) i = (l.map Mk.s).count i := by
 unfold often cntM
 rw [List.getElem?_map, List.getElem?_range h]
 rfl
theorem cntM_le (l : List Mk) (i : Nat) : often (cntM l) i ≤ l.length := by
 by_cases h : i < 19
 ·rw [cntM_get l i h]
  exact Nat.le_trans List.count_le_length (by simp)
 ·unfold often
  rw [List.getElem?_eq_none (by rw [cntM_length]; omega)]
  simp
end Go.Bel
namespace Go.Proofs.YtbpahojchgpdnaaGreatDoor
open Go.RowKit Go.Shelf Go.Lib Go.Sort Go.Bel
def MksAt (w : World) (g : Nat) (l : List Mk) : Prop := ∀ i k, l[i]? = some k → w.cell? ⟨g, i * 3, none⟩ = some (.int .i64 (k.s : Nat)) ∧ w.cell? ⟨g, i * 3 + 1, none⟩ = some (.int .i64 (k.x : Nat)) ∧ w.cell? ⟨g, i * 3 + 2, none⟩ = some (.int .i64 (k.m : Nat))
theorem cellsM_at : ∀ (l : List Mk) (i : Nat) (k : Mk), l[i]? = some k → (cellsM l)[i * 3]? = some (.int .i64 (k.s : Nat)) ∧ (cellsM l)[i * 3 + 1]? = some (.int .i64 (k.x : Nat)) ∧ (cellsM l)[i * 3 + 2]? = some (.int .i64 (k.m : Nat))
 | [], i, k, h => by simp at h
 | p :: l, 0, k, h => by cases h; exact ⟨rfl, rfl, rfl⟩
 | p :: l, i + 1, k, h => by
  have h2 := cellsM_at l i k (by simpa using h)
  rw [show (i + 1) * 3 = i * 3 + 1 + 1 + 1 by omega]
  exact h2
theorem MksAt.of_owns {w : World} {base g n cap : Nat} {l : List Mk} (h : w.ownsRow base 175 3 (.slice (some ⟨g, 0, none⟩) n cap) l.length (cellsM l)) : MksAt w g l := by
 intro i k hk
 have e := cellsM_at l i k hk
 have hc : ∀ j u, (cellsM l)[j]? = some u → w.cell? ⟨g, j, none⟩ = some u := fun j u hu => by
  have := h.cells rfl j u hu
  rw [show (Addr.add ⟨g, 0, none⟩ j) = ⟨g, j, none⟩ by simp [Addr.add]; omega] at this
  exact this
 exact ⟨hc _ _ e.1, hc _ _ e.2.1, hc _ _ e.2.2⟩
theorem MksAt.step {w w' : World} {g : Nat} {l : List Mk} {S : Nat → Prop} (h : MksAt w g l) (hs : Step S w w') (hg : ¬ S g) : MksAt w' g l := fun i k hk =>
 ⟨hs.cell (h i k hk).1 hg, hs.cell (h i k hk).2.1 hg, hs.cell (h i k hk).2.2 hg⟩
theorem firstLengths_ok (g cap : Nat) (l : List Mk) (w : World) (h : MksAt w g l) (hg : g < w.heap.size) (hl : l.length ≤ 1000) (hs : ∀ k ∈ l, k.s ≤ 18) :
  Calls Tryz.prog 186 #[.slice (some ⟨g, 0, none⟩) l.length cap] w fun e w' => ∃ gl, e = .returned (.slice (some ⟨gl, 0, none⟩) 19 19) ∧ w.heap.size ≤ gl ∧ CntAt w' gl 19 (often (lensOf (cntM l) 7)) ∧ Step (fun _ => False) w w' := by
 obtain ⟨i0, hi, hz0, hz1, hz2⟩ := info_parts Tryz.info3
 have HI := hide h
 have HSY := hide hs
 obtain ⟨n, hn⟩ : ∃ n, n = l.length := ⟨_, rfl⟩
 rw [← hn] at hl ⊢
 have HN := hide hn
 clear h hs hn
 go_enter Tryz.func186, Tryz.ntmps186
 go_wp2_with (at_make; refine wpList_make_full _ rfl _ _ 57 rfl w.heap.size 3 i0 (.int .i64 0) 1 Tryz.underlying57 hi hz0 hz1 .i64 .i64 _ _ 19 rfl rfl rfl rfl (by rw [hz2]; omega) (by unfold maxLen; omega) (Nat.le_refl _) ?_; intro w1 hown1 hgr1)
 have hst1 := (Step.refl (fun _ => False) w).grown hgr1 (fun k e => by cases e)
 have hc1 : CntAt w1 w.heap.size 19 (fun _ => 0) := cnt_made hown1
 obtain ⟨R, hR⟩ : ∃ R, R = w.heap.size := ⟨_, rfl⟩
 rw [← hR] at hc1 ⊢
 have HST1 := hide hst1
 have HC1 := hide (show CntAt w1 R 19 (fun i => ((l.take 0).map Mk.s).count i) from hc1.congr (fun i hi => rfl))
 have HR := hide hR
 have hgR : ¬ g = R := by omega
 clear hown1 hgr1 hst1 hc1 hR
 go_loopg [9] n (fun kx u9 wr => ∃ t : Nat, u9 = .int .i64 (t : Nat) ∧ t ≤ n ∧ kx = n - t ∧ Hid (CntAt wr R 19 (fun i => ((l.take t).map Mk.s).count i)) ∧ Hid (Step (fun _ => False) w wr))
 case atStart => exact ⟨0, rfl, by omega, rfl, HC1, HST1⟩
 case round =>
  clear HC1 HST1
  obtain ⟨t, rfl, htn, hkx, HC, HS⟩ := hrel
  by_cases hlt : t < n
  ·have hltz : (t : Int) < (n : Int) := by omega
   obtain ⟨k, hk⟩ : ∃ k, l[t]? = some k := ⟨_, List.getElem?_eq_getElem (by have := unhide HN; omega)⟩
   obtain ⟨a0, a1, a2⟩ := (unhide HI).step (unhide HS) (fun y => y) t k hk
   have hk18 := unhide HSY k (List.mem_of_getElem? hk)
   obtain ⟨s, hs⟩ : ∃ s, s = k.s := ⟨_, rfl⟩
   obtain ⟨x, hx⟩ : ∃ s : Int, s = (k.x : Int) := ⟨_, rfl⟩
   obtain ⟨m, hm⟩ : ∃ s : Int, s = (k.m : Int) := ⟨_, rfl⟩
   rw [← hs] at a0 hk18
   rw [← hx] at a1
   rw [← hm] at a2
   have hcs : ((l.take t).map Mk.s).count s ≤ t := Nat.le_trans List.count_le_length (by simp; omega)
   have cR := (unhide HC).cell s (by omega)
   have fR := (unhide HC).free s
   have lR := (unhide HC).lt
   obtain ⟨c, hc⟩ : ∃ c, c = ((l.take t).map Mk.s).count s := ⟨_, rfl⟩
   dsimp only at cR
   rw [← hc] at cR hcs
   have et : ((t : Int)).toNat = t := by omega
   have pt : (0 : Int) ≤ (t : Int) := by omega
   have es : ((s : Int)).toNat = s := by omega
   have ps : (0 : Int) ≤ (s : Int) := by omega
   have qs : (s : Int) < 19 := by omega
   have hcz : (c : Int) + 1 = ((c + 1 : Nat) : Int) := by omega
   have hnew : CntAt ((wr.setCell ⟨R, s, none⟩ (.int .i64 ((c : Int) + 1))).alloc (.cells #[.int .i64 (s : Nat), .int .i64 x, .int .i64 m] 175)) R 19 (fun i => ((l.take (t + 1)).map Mk.s).count i) := by
    rw [hcz]
    refine (RowAt.alloc ((unhide HC).set s (.int .i64 ((c + 1 : Nat) : Int))) _).congr (fun i hi => ?_)
    dsimp only
    have e9 : ((l.take (t + 1)).map Mk.s).count i = ((l.take t).map Mk.s).count i + (if i = s then 1 else 0) := by
     rw [List.map_take, List.map_take]
     exact count_take_succ (by rw [List.getElem?_map, hk, hs]; rfl) i
    rw [e9]
    by_cases e : i = s
    ·rw [if_pos e, if_pos e, hc, e]
    ·rw [if_neg e, if_neg e, Nat.add_zero]
   have hsnew : Step (fun _ => False) w ((wr.setCell ⟨R, s, none⟩ (.int .i64 ((c : Int) + 1))).alloc (.cells #[.int .i64 (s : Nat), .int .i64 x, .int .i64 m] 175)) := ((unhide HS).setNew (p := ⟨R, s, none⟩) (by show w.heap.size ≤ R; have := unhide HR; omega) _).alloc _
   have HN1 := hide hnew
   have HN2 := hide hsnew
   have hRne : ¬ R = wr.heap.size := by omega
   clear hs hx hm hc hk hcz hnew hsnew HC HS
   go_wp2_with fail
   go_roundg (n - (t + 1))
   case measure => omega
   case rel => exact ⟨t + 1, by go_num, by omega, rfl, HN1, HN2⟩
  ·have hltz : ¬ (t : Int) < (n : Int) := by omega
   have htt : t = n := by omega
   have hN := unhide HN
   have hnum : NumsIn wr R 0 (cntM l) := fun i hi => by
    rw [cntM_length] at hi
    have := (unhide HC).cell i hi
    rw [Nat.zero_add, this, cntM_get l i hi, htt, hN, List.take_length]
   have hlg := lengths_ok R 0 19 7 (cntM l) wr hnum (by rw [cntM_length]; omega) (by rw [cntM_length]; omega) (fun i => by have := cntM_le l i; omega) (by omega) (by omega) (by rw [cntM_length]; decide)
   rw [cntM_length] at hlg
   have HLG := hide hlg
   have hz := (unhide HS).size
   clear hnum hlg hN htt
   go_wp2_with (go_at_call 183; refine (unhide HLG).mono ?_; rintro e w5 ⟨gl, rfl, hgl, hcl, hst5⟩)
   go_ret
   exact ⟨gl, rfl, by omega, hcl, (unhide HS).trans hst5⟩
end Go.Proofs.YtbpahojchgpdnaaGreatDoor
namespace Go.Proofs.YtbpahojchgpdnaaGreatDoor
open Go.RowKit Go.Bel
theorem pow_sep {m m' a c : Nat} (h1 : c * 2 ^ m ≤ a) (h2 : a < 2 * (c * 2 ^ m)) (h3 : c * 2 ^ m' ≤ a) (h4 : a < 2 * (c * 2 ^ m')) : m = m' := by
 have key : ∀ i j : Nat, i < j → 2 * (c * 2 ^ i) ≤ c * 2 ^ j := fun i j hij => by
  have : 2 ^ (i + 1) ≤ 2 ^ j := Nat.pow_le_pow_right (by omega) hij
  have := Nat.mul_le_mul_left c this
  rw [Nat.pow_succ] at this
  rw [show c * (2 ^ i * 2) = 2 * (c * 2 ^ i) by rw [← Nat.mul_assoc, Nat.mul_comm]] at this
  exact this
 rcases Nat.lt_trichotomy m m' with h | h | h
 ·have := key m m' h; omega
 ·exact h
 ·have := key m' m h; omega
theorem rest_sep {P r r' x x' : Nat} (h : r * P + x = r' * P + x') (hx : x < P) (hx' : x' < P) : r = r' := by
 have h1 : (r * P + x) / P = r := by rw [Nat.mul_comm, Nat.mul_add_div (by omega), Nat.div_eq_of_lt hx, Nat.add_zero]
 have h2 : (r' * P + x') / P = r' := by rw [Nat.mul_comm, Nat.mul_add_div (by omega), Nat.div_eq_of_lt hx', Nat.add_zero]
 rw [← h1, h, h2]
theorem lenM_one {n s x m s' x' m' : Nat} (h : LenM n s x m) (h' : LenM n s' x' m') : s = s' := by
 rcases h with ⟨a1, a2, a3, a4⟩ | ⟨a1, a2, a3, a4, a5⟩ | ⟨a1, a2, a3, a4, a5, a6, a7⟩
 ·rcases h' with ⟨b1, b2, b3, b4⟩ | ⟨b1, b2, b3, b4, b5⟩ | ⟨b1, b2, b3, b4, b5, b6, b7⟩
  ·omega
  ·omega
  ·exact absurd a1 b7
 ·rcases h' with ⟨b1, b2, b3, b4⟩ | ⟨b1, b2, b3, b4, b5⟩ | ⟨b1, b2, b3, b4, b5, b6, b7⟩
  ·omega
  ·omega
  ·exfalso
   have h1 : 2 ^ 1 ≤ 2 ^ m' := Nat.pow_le_pow_right (by omega) (by omega)
   have h2 : 4 * 2 ^ m' ≤ (4 + (s' - 265) % 4) * 2 ^ m' := Nat.mul_le_mul_right _ (by omega)
   omega
 ·rcases h' with ⟨b1, b2, b3, b4⟩ | ⟨b1, b2, b3, b4, b5⟩ | ⟨b1, b2, b3, b4, b5, b6, b7⟩
  ·exact absurd b1 a7
  ·exfalso
   have h1 : 2 ^ 1 ≤ 2 ^ m := Nat.pow_le_pow_right (by omega) (by omega)
   have h2 : 4 * 2 ^ m ≤ (4 + (s - 265) % 4) * 2 ^ m := Nat.mul_le_mul_right _ (by omega)
   omega
  ·have lo : ∀ s m : Nat, 4 * 2 ^ m ≤ (4 + (s - 265) % 4) * 2 ^ m := fun s m => Nat.mul_le_mul_right _ (by omega)
   have hi : ∀ s m x : Nat, x < 2 ^ m → (4 + (s - 265) % 4) * 2 ^ m + x < 2 * (4 * 2 ^ m) := fun s m x hx => by
    have : (4 + (s - 265) % 4 + 1) * 2 ^ m ≤ 8 * 2 ^ m := Nat.mul_le_mul_right _ (by omega)
    rw [Nat.add_mul (4 + (s - 265) % 4) 1, Nat.one_mul] at this
    omega
   have e : m = m' := pow_sep (a := (4 + (s - 265) % 4) * 2 ^ m + x) (c := 4) (by have := lo s m; omega) (hi s m x a5) (by have := lo s' m'; omega) (by have := hi s' m' x' b5; omega)
   subst e
   have hr := rest_sep (P := 2 ^ m) (r := 4 + (s - 265) % 4) (r' := 4 + (s' - 265) % 4) (x := x) (x' := x') (by omega) a5 b5
   omega
theorem distM_one {n s x m s' x' m' : Nat} (h : DistM n s x m) (h' : DistM n s' x' m') : s = s' := by
 rcases h with ⟨a1, a2, a3, a4⟩ | ⟨a1, a2, a3, a4, a5, a6⟩
 ·rcases h' with ⟨b1, b2, b3, b4⟩ | ⟨b1, b2, b3, b4, b5, b6⟩
  ·omega
  ·exfalso
   have h1 : 2 ^ 1 ≤ 2 ^ m' := Nat.pow_le_pow_right (by omega) (by omega)
   have h2 : 2 * 2 ^ m' ≤ (2 + s' % 2) * 2 ^ m' := Nat.mul_le_mul_right _ (by omega)
   omega
 ·rcases h' with ⟨b1, b2, b3, b4⟩ | ⟨b1, b2, b3, b4, b5, b6⟩
  ·exfalso
   have h1 : 2 ^ 1 ≤ 2 ^ m := Nat.pow_le_pow_right (by omega) (by omega)
   have h2 : 2 * 2 ^ m ≤ (2 + s % 2) * 2 ^ m := Nat.mul_le_mul_right _ (by omega)
   omega
  ·have lo : ∀ s m : Nat, 2 * 2 ^ m ≤ (2 + s % 2) * 2 ^ m := fun s m => Nat.mul_le_mul_right _ (by omega)
   have hi : ∀ s m x : Nat, x < 2 ^ m → (2 + s % 2) * 2 ^ m + x < 2 * (2 * 2 ^ m) := fun s m x hx => by
    have : (2 + s % 2 + 1) * 2 ^ m ≤ 4 * 2 ^ m := Nat.mul_le_mul_right _ (by omega)
    rw [Nat.add_mul (2 + s % 2) 1, Nat.one_mul] at this
    omega
   have e : m = m' := pow_sep (a := (2 + s % 2) * 2 ^ m + x) (c := 2) (by have := lo s m; omega) (hi s m x a5) (by have := lo s' m'; omega) (by have := hi s' m' x' b5; omega)
   subst e
   have hr := rest_sep (P := 2 ^ m) (r := 2 + s % 2) (r' := 2 + s' % 2) (x := x) (x' := x') (by omega) a5 b5
   omega
end Go.Proofs.YtbpahojchgpdnaaGreatDoor
