/- Proved here: how many bytes Pack writes bare, at most; plain; nothing of the program. -/
import Derived.Test.YtbpahojchgpdnaaGreatDoorLater
import Derived.Test.YtbpahojchgpdnaaGreatDoorScript
import Derived.Test.YtbpahojchgpdnaaGreatDoorRefB
import Derived.Deep.QuietTactic
import Derived.Deep.RegionWith
import Derived.Laws.Cover4
set_option maxRecDepth 20000
set_option maxHeartbeats 4000000
namespace Go.Proofs.YtbpahojchgpdnaaGreatDoor
open Go.RowKit Go.Shelf Go.Lib Go.Sort Go.Bel
def blocksP (n : Nat) : Nat := if (n + 65534) / 65535 = 0 then 1 else (n + 65534) / 65535
def storedP (n : Nat) : Nat := 5 * blocksP n + n
def fixedP (n : Nat) : Nat := (9 * n + 10 + 7) / 8
def leastP (way n : Nat) : Nat := if way = 0 ∨ (way = 2 ∧ storedP n < fixedP n) then storedP n else fixedP n
theorem stored_exact (n : Nat) (l : List Nat) (last : Bool) (h : n % 8 = 0) : (storedBits n l last).length = 8 * (5 + l.length) := by
 unfold storedBits
 simp only [List.length_append, beginBits_length, numBits_length, byteBits_length]
 have : (padBits (n + 3)).length = 5 := by
  unfold padBits
  rw [List.length_replicate]
  omega
 omega
theorem stoR_exact {n : Nat} {ys : List Nat} {bits : List Bool} (h : StoR n ys bits) : n % 8 = 0 → bits.length = 8 * storedP ys.length := by
 induction h with
 | last n ys h =>
  intro h0
  rw [stored_exact n ys true h0]
  unfold storedP blocksP
  split <;> omega
 | more n ys bits h ht ih =>
  intro h0
  have e := stored_exact n (ys.take 65535) false h0
  have hl : (ys.take 65535).length = 65535 := by rw [List.length_take]; omega
  rw [hl] at e
  have k := ih (by omega)
  rw [List.length_append, e, k, List.length_drop]
  unfold storedP blocksP
  split <;> split <;> omega
theorem fix_nine (s : Nat) : fixLens[s]?.getD 0 ≤ 9 := by
  by_cases h2 : s < 288
  · have : ∀ i : Fin 288, fixLens[i.1]?.getD 0 ≤ 9 := by decide +kernel
    exact this ⟨s, h2⟩
  · rw [List.getElem?_eq_none (by have : fixLens.length = 288 := by decide +kernel
                                  omega)]
    simp
theorem fix_257 : fixLens[257]?.getD 0 = 7 := by decide +kernel
theorem fix_256 : fixLens[256]?.getD 0 = 7 := by decide +kernel
theorem dist_le (s : Nat) : (List.replicate 32 5)[s]?.getD 0 ≤ 5 := by
 rw [List.getElem?_replicate]
 split <;> simp
theorem fix_most {s : Nat} (h : 257 ≤ s) : fixLens[s]?.getD 0 ≤ 8 := by
  by_cases h2 : s < 288
  · have : ∀ i : Fin 31, fixLens[257 + i.1]?.getD 0 ≤ 8 := by decide +kernel
    have h3 := this ⟨s - 257, by omega⟩
    rw [show 257 + (s - 257) = s by omega] at h3
    exact h3
  · rw [List.getElem?_eq_none (by have : fixLens.length = 288 := by decide +kernel
                                  omega)]
    simp
theorem pcBits_nine {ys : List Nat} {q : Nat} {p : Pc} {b : List Bool} (h : PcBits fixLens (List.replicate 32 5) p b) (hp : PcOk ys q p) : b.length ≤ 9 * max 1 p.l := by
 rcases h with ⟨a1, a2⟩ | ⟨a1, s, x, m, s2, x2, m2, a2, a3, a4⟩
 ·rw [a2, codeB_length]
  have := fix_nine p.b
  omega
 ·have h3 : 3 ≤ p.l := by rcases hp with y | y <;> omega
  have d1 := dist_le s2
  have d2 := a3.bd
  have l2 := a2.bd
  have l3 := fix_most l2.2.2.1
  rw [a4]
  simp only [List.length_append, codeB_length, numBits_length]
  by_cases h4 : p.l = 3
  ·rcases a2 with ⟨c1, c2, c3, c4⟩ | ⟨c1, c2, c3, c4, c5⟩ | ⟨c1, c2, c3, c4, c5, c6, c7⟩
   ·omega
   ·have e : s = 257 := by omega
    subst e
    rw [fix_257]
    omega
   ·have := Nat.pow_pos (n := m) (show 0 < 2 by omega)
    have h5 : 4 * 2 ^ m ≤ (4 + (s - 265) % 4) * 2 ^ m := Nat.mul_le_mul_right _ (by omega)
    omega
  ·omega
theorem pcsBits_nine {ys : List Nat} {r : Nat} : ∀ {ps : List Pc} {q : Nat} {b : List Bool}, PcsBits fixLens (List.replicate 32 5) ps b → PcsFrom ys q ps r → b.length + 9 * q ≤ 9 * r
 | [], q, b, h, h' => by
  have e : b = [] := h
  have e' : q = r := h'
  subst e e'
  simp
 | p :: ps, q, b, ⟨b1, b2, hb, h1, h2⟩, ⟨_, k2, k3⟩ => by
  have := pcsBits_nine h2 k3
  have := pcBits_nine h1 k2
  rw [hb, List.length_append]
  omega
theorem fixPk_most {ys : List Nat} {bits : List Bool} (h : FixPk ys bits) : (bits.length + 7) / 8 ≤ fixedP ys.length := by
 obtain ⟨ps, pb, _, h1, h2, rfl⟩ := h.2
 have := pcsBits_nine h2 h1
 unfold fixedP
 simp only [List.length_append, beginBits_length, codeB_length, fix_256]
 omega
theorem bestPb_most {ys : List Nat} {bits : List Bool} (h : BestPb ys bits) : (bits.length + 7) / 8 ≤ storedP ys.length ∧ (bits.length + 7) / 8 ≤ fixedP ys.length := by
 obtain ⟨ps, sb, fb, pb, tb, h1, h2, h3, h4, h5, h6, h7, h8, h9, _⟩ := h
 have k1 := stoR_exact h2 rfl
 have k2 := pcsBits_nine h3 h1
 have k3 : (fb.length + 7) / 8 ≤ fixedP ys.length := by
  rw [h5]
  unfold fixedP
  simp only [List.length_append, beginBits_length, codeB_length, fix_256]
  omega
 omega
theorem any_least {way : Nat} {ys : List Nat} {bits : List Bool} (h : AnyPb way ys bits) : (bits.length + 7) / 8 = leastP way ys.length ∨ ((bits.length + 7) / 8 < leastP way ys.length ∧ 0 < way) := by
 rcases h with ⟨rfl, h⟩ | ⟨rfl, h⟩ | ⟨rfl, h⟩
 ·left
  have := stoR_exact h rfl
  unfold leastP
  rw [if_pos (.inl rfl)]
  omega
 ·have := fixPk_most h
  unfold leastP
  rw [if_neg (by omega)]
  omega
 ·have := bestPb_most h
  unfold leastP
  split <;> omega
end Go.Proofs.YtbpahojchgpdnaaGreatDoor
namespace Go.Proofs.YtbpahojchgpdnaaGreatDoor
open Go.RowKit Go.Bel
def PackIs (wrap way : Int) (b : ByteArray) (L : List Nat) (e : Nat) : Prop :=
 (¬ (0 ≤ wrap ∧ wrap ≤ 2) ∧ L = [] ∧ e = 1) ∨ ((0 ≤ wrap ∧ wrap ≤ 2) ∧ ¬ (0 ≤ way ∧ way ≤ 2) ∧ L = [] ∧ e = 2) ∨
 ((0 ≤ wrap ∧ wrap ≤ 2) ∧ (0 ≤ way ∧ way ≤ 2) ∧ 1048576 < b.size ∧ L = [] ∧ e = 11) ∨
 ((0 ≤ wrap ∧ wrap ≤ 2) ∧ (0 ≤ way ∧ way ≤ 2) ∧ b.size ≤ 1048576 ∧ e = 0 ∧ ∃ bits P, AnyPb way.toNat (bytesOf b) bits ∧ BitsIn bits P ∧ P.length = (bits.length + 7) / 8 ∧ L = aroundK wrap.toNat P (bytesOf b))
theorem PackIs.one {wrap way : Int} {b : ByteArray} {L L' : List Nat} {e e' : Nat} (h : PackIs wrap way b L e) (h' : PackIs wrap way b L' e') : L = L' ∧ e = e' := by
 rcases h with ⟨a1, a2, a3⟩ | ⟨a1, a2, a3, a4⟩ | ⟨a1, a2, a3, a4, a5⟩ | ⟨a1, a2, a3, a4, bits, P, a5, a6, a7, a8⟩
 ·rcases h' with ⟨b1, b2, b3⟩ | ⟨b1, b2, b3, b4⟩ | ⟨b1, b2, b3, b4, b5⟩ | ⟨b1, b2, b3, b4, _⟩
  ·exact ⟨a2.trans b2.symm, a3.trans b3.symm⟩
  ·exact absurd b1 a1
  ·exact absurd b1 a1
  ·exact absurd b1 a1
 ·rcases h' with ⟨b1, b2, b3⟩ | ⟨b1, b2, b3, b4⟩ | ⟨b1, b2, b3, b4, b5⟩ | ⟨b1, b2, b3, b4, _⟩
  ·exact absurd a1 b1
  ·exact ⟨a3.trans b3.symm, a4.trans b4.symm⟩
  ·exact absurd b2 a2
  ·exact absurd b2 a2
 ·rcases h' with ⟨b1, b2, b3⟩ | ⟨b1, b2, b3, b4⟩ | ⟨b1, b2, b3, b4, b5⟩ | ⟨b1, b2, b3, b4, _⟩
  ·exact absurd a1 b1
  ·exact absurd a2 b2
  ·exact ⟨a4.trans b4.symm, a5.trans b5.symm⟩
  ·omega
 ·rcases h' with ⟨b1, b2, b3⟩ | ⟨b1, b2, b3, b4⟩ | ⟨b1, b2, b3, b4, b5⟩ | ⟨b1, b2, b3, b4, bits', P', b5, b6, b7, b8⟩
  ·exact absurd a1 b1
  ·exact absurd a2 b2
  ·omega
  ·have e1 := a5.one b5
   subst e1
   have e2 := bytes_one a6 b6 a7 b7
   subst e2
   exact ⟨a8.trans b8.symm, a4.trans b4.symm⟩
theorem lent_bytes {w : World} {B : Nat} {b : ByteArray} (h : RowAt w B 5 (b.size + 8) (lentCell b)) (hb : b.size ≤ 1048576) : BytesIn w (.slice (some ⟨B, 0, none⟩) b.size (b.size + 8)) (bytesOf b) := by
 have hS := lent_src h (by omega)
 refine ⟨.inr ⟨B, 0, b.size + 8, by rw [bytesOf_length], fun i hi => hS.cell i hi⟩, fun y hy => bytesOf_lt b y hy, fun j off n c hu => ?_, fun a n c hu => ?_, by rw [bytesOf_length]; exact hb⟩
 ·simp only [Value.slice.injEq, Option.some.injEq, Addr.mk.injEq, and_true] at hu
  have := h.lt
  omega
 ·simp only [Value.slice.injEq] at hu
  omega
theorem packL_ok (wrap way : Int) (b : ByteArray) (B : Nat) (w : World) (h : RowAt w B 5 (b.size + 8) (lentCell b)) (hb : b.size ≤ 140737488351232) (hO : OrderAt w) (h4 : 4 ≤ w.heap.size) :
  Calls Tryz.prog 26 #[.int .i64 wrap, .int .i64 way, .slice (some ⟨B, 0, none⟩) b.size (b.size + 8)] w fun r w' => ∃ v' L e, r = .returned (.tuple #[v', .int .i64 ((e : Nat) : Int)]) ∧ PackIs wrap way b L e ∧ w'.ownsRow w.heap.size 5 1 v' L.length (u8s L) ∧ Step (fun _ => False) w w' := by
 have hnil : ∀ W : World, W.ownsRow w.heap.size 5 1 (.slice none 0 0) ([] : List Nat).length (u8s []) := fun W => World.ownsRow_nil _ _ _ _
 by_cases hk : 0 ≤ wrap ∧ wrap ≤ 2
 ·by_cases hw : 0 ≤ way ∧ way ≤ 2
  ·by_cases hs : 1048576 < b.size
   ·have HI := hide (show PackIs wrap way b [] 11 from .inr (.inr (.inl ⟨hk, hw, hs, rfl, rfl⟩)))
    have k1 : ¬ wrap < 0 := by omega
    have k2 : ¬ wrap > 2 := by omega
    have k3 : ¬ way < 0 := by omega
    have k4 : ¬ way > 2 := by omega
    have k5 : (b.size : Int) > 1048576 := by omega
    clear hk hw hs h hO
    go_enter Tryz.func26, Tryz.ntmps26
    go_wp2_with fail
    go_ret2
    exact ⟨_, [], 11, rfl, unhide HI, hnil _, Step.refl _ _⟩
   ·obtain ⟨k, rfl⟩ : ∃ k : Nat, wrap = (k : Int) := ⟨wrap.toNat, by omega⟩
    obtain ⟨v, rfl⟩ : ∃ v : Nat, way = (v : Int) := ⟨way.toNat, by omega⟩
    refine (pack_say k v (by omega) (by omega) _ _ _ (any_said v (bytesOf b) (by omega) (by rw [bytesOf_length]; omega)) w (lent_bytes h (by omega)) hO h4).mono ?_
    rintro r w' ⟨v', bits, P, rfl, hp⟩
    refine ⟨v', _, 0, rfl, .inr (.inr (.inr ⟨hk, hw, by omega, rfl, bits, P, hp.pb, hp.bin, hp.len, rfl⟩)), ?_, hp.st⟩
    exact hp.row
  ·have HI := hide (show PackIs wrap way b [] 2 from .inr (.inl ⟨hk, hw, rfl, rfl⟩))
   have k1 : ¬ wrap < 0 := by omega
   have k2 : ¬ wrap > 2 := by omega
   by_cases hw0 : way < 0
   ·clear hk hw h hO
    go_enter Tryz.func26, Tryz.ntmps26
    go_wp2_with fail
    go_ret2
    exact ⟨_, [], 2, rfl, unhide HI, hnil _, Step.refl _ _⟩
   ·have k4 : way > 2 := by omega
    clear hk hw h hO
    go_enter Tryz.func26, Tryz.ntmps26
    go_wp2_with fail
    go_ret2
    exact ⟨_, [], 2, rfl, unhide HI, hnil _, Step.refl _ _⟩
 ·have HI := hide (show PackIs wrap way b [] 1 from .inl ⟨hk, rfl, rfl⟩)
  by_cases hk0 : wrap < 0
  ·clear hk h hO
   go_enter Tryz.func26, Tryz.ntmps26
   go_wp2_with fail
   go_ret2
   exact ⟨_, [], 1, rfl, unhide HI, hnil _, Step.refl _ _⟩
  ·have k4 : wrap > 2 := by omega
   clear hk h hO
   go_enter Tryz.func26, Tryz.ntmps26
   go_wp2_with fail
   go_ret2
   exact ⟨_, [], 1, rfl, unhide HI, hnil _, Step.refl _ _⟩
end Go.Proofs.YtbpahojchgpdnaaGreatDoor
namespace Go.Proofs.YtbpahojchgpdnaaGreatDoor
open Go.RowKit Go.Bel
theorem least_ok (v n : Nat) (w : World) (hv : v ≤ 2) (hn : n ≤ 1048576) : Calls Tryz.prog 71 #[.int .i64 (v : Nat), .int .i64 (n : Nat)] w fun r w' => r = .returned (.int .i64 (leastP v n : Nat)) ∧ w' = w := by
 obtain ⟨m, hm⟩ : ∃ m, m = (n + 65534) / 65535 := ⟨_, rfl⟩
 have d1 : ((n : Int) + 65534) / 65535 = (m : Int) := by omega
 obtain ⟨f, hf⟩ : ∃ f, f = (9 * n + 10 + 7) / 8 := ⟨_, rfl⟩
 have d2 : (9 * (n : Int) + 10 + 7) / 8 = (f : Int) := by omega
 obtain ⟨s, hs⟩ : ∃ s, s = storedP n := ⟨_, rfl⟩
 have hs1 : m = 0 → 5 * 1 + (n : Int) = (s : Int) := fun h => by rw [hs]; unfold storedP blocksP; rw [← hm, if_pos h]; omega
 have hs2 : m ≠ 0 → 5 * (m : Int) + (n : Int) = (s : Int) := fun h => by rw [hs]; unfold storedP blocksP; rw [← hm, if_neg h]; omega
 have hL : leastP v n = if v = 0 ∨ (v = 2 ∧ s < f) then s else f := by unfold leastP fixedP; rw [← hs, ← hf]
 have HL := hide hL
 clear hL hs hm hf
 by_cases hm0 : m = 0
 ·have e1 : ((m : Int) == 0) = true := beq_iff_eq.2 (by omega)
  have e2 := hs1 hm0
  clear hs1 hs2 hm0
  have hv3 : v = 0 ∨ v = 1 ∨ v = 2 := by omega
  rcases hv3 with rfl | rfl | rfl
  ·have hx : leastP 0 n = s := by rw [unhide HL, if_pos (.inl rfl)]
   have HA := hide (show (s : Int) = (leastP 0 n : Nat) by rw [hx])
   have HB := hide (show 5 + (n : Int) = ((leastP 0 n : Nat) : Int) by rw [hx]; omega)
   clear hx HL
   go_enter Tryz.func71, Tryz.ntmps71
   go_wp2_with fail
   go_ret
   first | exact ⟨by rw [← unhide HA]; rfl, rfl⟩ | exact ⟨by rw [← unhide HB]; rfl, rfl⟩
  ·have hx : leastP 1 n = f := by rw [unhide HL, if_neg (by omega)]
   have HA := hide (show (f : Int) = (leastP 1 n : Nat) by rw [hx])
   have HB := hide (show (9 * (n : Int) + 10 + 7) / 8 = ((leastP 1 n : Nat) : Int) by rw [hx]; omega)
   clear hx HL
   go_enter Tryz.func71, Tryz.ntmps71
   go_wp2_with fail
   go_ret
   first | exact ⟨by rw [← unhide HA]; rfl, rfl⟩ | exact ⟨by rw [← unhide HB]; rfl, rfl⟩
  ·by_cases hsf : s < f
   ·have hsf' : (s : Int) < (f : Int) := by omega
    have hx : leastP 2 n = s := by rw [unhide HL, if_pos (.inr ⟨rfl, hsf⟩)]
    have HA := hide (show (s : Int) = (leastP 2 n : Nat) by rw [hx])
    have HB := hide (show 5 + (n : Int) = ((leastP 2 n : Nat) : Int) by rw [hx]; omega)
    clear hx HL
    go_enter Tryz.func71, Tryz.ntmps71
    go_wp2_with fail
    go_ret
    first | exact ⟨by rw [← unhide HA]; rfl, rfl⟩ | exact ⟨by rw [← unhide HB]; rfl, rfl⟩
   ·have hsf' : ¬ (s : Int) < (f : Int) := by omega
    have hx : leastP 2 n = f := by rw [unhide HL, if_neg (by omega)]
    have HA := hide (show (f : Int) = (leastP 2 n : Nat) by rw [hx])
    have HB := hide (show (9 * (n : Int) + 10 + 7) / 8 = ((leastP 2 n : Nat) : Int) by rw [hx]; omega)
    clear hx HL
    go_enter Tryz.func71, Tryz.ntmps71
    go_wp2_with fail
    go_ret
    first | exact ⟨by rw [← unhide HA]; rfl, rfl⟩ | exact ⟨by rw [← unhide HB]; rfl, rfl⟩
 ·have e1 : ((m : Int) == 0) = false := beq_eq_false_iff_ne.2 (by omega)
  have e2 := hs2 hm0
  clear hs1 hs2 hm0
  have hv3 : v = 0 ∨ v = 1 ∨ v = 2 := by omega
  rcases hv3 with rfl | rfl | rfl
  ·have hx : leastP 0 n = s := by rw [unhide HL, if_pos (.inl rfl)]
   have HA := hide (show (s : Int) = (leastP 0 n : Nat) by rw [hx])
   have HB := hide (show 5 * (m : Int) + (n : Int) = ((leastP 0 n : Nat) : Int) by rw [hx]; omega)
   clear hx HL
   go_enter Tryz.func71, Tryz.ntmps71
   go_wp2_with fail
   go_ret
   first | exact ⟨by rw [← unhide HA]; rfl, rfl⟩ | exact ⟨by rw [← unhide HB]; rfl, rfl⟩
  ·have hx : leastP 1 n = f := by rw [unhide HL, if_neg (by omega)]
   have HA := hide (show (f : Int) = (leastP 1 n : Nat) by rw [hx])
   have HB := hide (show (9 * (n : Int) + 10 + 7) / 8 = ((leastP 1 n : Nat) : Int) by rw [hx]; omega)
   clear hx HL
   go_enter Tryz.func71, Tryz.ntmps71
   go_wp2_with fail
   go_ret
   first | exact ⟨by rw [← unhide HA]; rfl, rfl⟩ | exact ⟨by rw [← unhide HB]; rfl, rfl⟩
  ·by_cases hsf : s < f
   ·have hsf' : (s : Int) < (f : Int) := by omega
    have hx : leastP 2 n = s := by rw [unhide HL, if_pos (.inr ⟨rfl, hsf⟩)]
    have HA := hide (show (s : Int) = (leastP 2 n : Nat) by rw [hx])
    have HB := hide (show 5 * (m : Int) + (n : Int) = ((leastP 2 n : Nat) : Int) by rw [hx]; omega)
    clear hx HL
    go_enter Tryz.func71, Tryz.ntmps71
    go_wp2_with fail
    go_ret
    first | exact ⟨by rw [← unhide HA]; rfl, rfl⟩ | exact ⟨by rw [← unhide HB]; rfl, rfl⟩
   ·have hsf' : ¬ (s : Int) < (f : Int) := by omega
    have hx : leastP 2 n = f := by rw [unhide HL, if_neg (by omega)]
    have HA := hide (show (f : Int) = (leastP 2 n : Nat) by rw [hx])
    have HB := hide (show (9 * (n : Int) + 10 + 7) / 8 = ((leastP 2 n : Nat) : Int) by rw [hx]; omega)
    clear hx HL
    go_enter Tryz.func71, Tryz.ntmps71
    go_wp2_with fail
    go_ret
    first | exact ⟨by rw [← unhide HA]; rfl, rfl⟩ | exact ⟨by rw [← unhide HB]; rfl, rfl⟩
def wrappedP (k : Nat) : Nat := if k = 1 then 6 else if k = 2 then 18 else 0
theorem wrapped_ok (k : Nat) (w : World) (hk : k ≤ 2) : Calls Tryz.prog 72 #[.int .i64 (k : Nat)] w fun r w' => r = .returned (.int .i64 (wrappedP k : Nat)) ∧ w' = w := by
 have hk3 : k = 0 ∨ k = 1 ∨ k = 2 := by omega
 rcases hk3 with rfl | rfl | rfl
 ·go_enter Tryz.func72, Tryz.ntmps72
  go_wp2_with fail
  go_ret
  exact ⟨rfl, rfl⟩
 ·go_enter Tryz.func72, Tryz.ntmps72
  go_wp2_with fail
  go_ret
  exact ⟨rfl, rfl⟩
 ·go_enter Tryz.func72, Tryz.ntmps72
  go_wp2_with fail
  go_ret
  exact ⟨rfl, rfl⟩
theorem wrapped_more (k : Nat) (P ys : List Nat) : (aroundK k P ys).length = P.length + wrappedP k := by
 unfold aroundK wrappedP
 by_cases h1 : k = 1
 ·rw [if_pos h1, if_pos h1]; simp [aroundZ, be4]
 ·rw [if_neg h1, if_neg h1]
  by_cases h2 : k = 2
  ·rw [if_pos h2, if_pos h2]; simp [aroundG, le4]
  ·rw [if_neg h2, if_neg h2]; rfl
theorem ref_reads (k v : Nat) (b : ByteArray) (bits : List Bool) (P : List Nat) (hk : k ≤ 2) (hb : b.size ≤ 1048576) (h1 : AnyPb v (bytesOf b) bits) (h2 : BitsIn bits P) (h3 : P.length = (bits.length + 7) / 8) (w : World) :
  Calls Tryz.prog 67 #[.int .i64 (k : Nat), .string (strOf (aroundK k P (bytesOf b))), .int .i64 (b.size : Nat)] w
   fun r w' => ∃ v', r = .returned (.agg #[.int .i64 ((0 : Nat) : Int), v', .int .i64 ((aroundK k P (bytesOf b)).length : Nat), .string ⟨#[]⟩]) ∧ w'.ownsRow w.heap.size 5 1 v' b.size (u8s (bytesOf b)) ∧ Step (fun _ => False) w w' := by
 have hal := any_len h1 (by rw [bytesOf_length]; omega)
 have hR := any_reads h1 (fun y hy => bytesOf_lt b y hy) h2 h3
 have hPb : AllB P := fun y hy => by
  obtain ⟨i, hi, rfl⟩ := List.getElem_of_mem hy
  have := h2.byte i
  rw [List.getElem?_eq_getElem hi] at this
  exact this
 have hB := around_byte k P (bytesOf b) hPb
 have hl := around_len k P (bytesOf b)
 have hsz : (strOf (aroundK k P (bytesOf b))).size ≤ 140737488351232 := by rw [str_size]; omega
 have hbs := bytesOf_str (aroundK k P (bytesOf b)) hB
 have ha := asked_nat b.size hb
 have hm : (bytesOf b).length ≤ b.size := by rw [bytesOf_length]; exact Nat.le_refl _
 have h3 : k = 1 ∨ k = 2 ∨ k = 0 := by omega
 rcases h3 with rfl | rfl | rfl
 ·have e : aroundK 1 P (bytesOf b) = aroundZ P (bytesOf b) := rfl
  rw [e] at hsz hbs hB ⊢
  have hz := (z_around (X := []) (most := b.size) hR (by rw [List.append_nil]; exact hB)).1 hm
  rw [List.append_nil] at hz
  have h9 := unpackX1 0 (b.size : Int) _ (bytesOf b) _ w toldX_any hsz (by rw [hbs, ha]; exact hz) (fun y => absurd rfl y)
  rw [bytesOf_length] at h9
  exact h9
 ·have e : aroundK 2 P (bytesOf b) = aroundG P (bytesOf b) := rfl
  rw [e] at hsz hbs hB ⊢
  have hz := (gz_around (X := []) (most := b.size) hR (by rw [List.append_nil]; exact hB) (by rw [bytesOf_length]; omega)).1 hm
  rw [List.append_nil] at hz
  have h9 := unpackX2 0 (b.size : Int) _ (bytesOf b) _ [] w toldX_any hsz (by rw [hbs, ha]; exact hz) (fun y => absurd rfl y)
  rw [bytesOf_length] at h9
  exact h9
 ·have e : aroundK 0 P (bytesOf b) = P := rfl
  rw [e] at hsz hbs hB ⊢
  obtain ⟨n, hr⟩ := (hR [] [] (by simpa using all_get hPb) b.size).1 hm
  have hr' : GRun (bytesOf (strOf P)) n (gInit (asked (b.size : Int))) 0 (bytesOf b) (8 * P.length) := by rw [hbs, ha]; simpa [gAt, gInit] using hr
  have := unpackX n 0 (b.size : Int) _ (bytesOf b) (8 * P.length) w toldX_any hsz hr'
  rw [show usedG 0 0 (8 * P.length) = P.length by unfold usedG; rw [if_pos rfl]; omega, bytesOf_length] at this
  exact this
end Go.Proofs.YtbpahojchgpdnaaGreatDoor
namespace Go.Proofs.YtbpahojchgpdnaaGreatDoor
open Go.RowKit Go.Bel
theorem own_kept {W W' : World} {base wb b1 n : Nat} {ps v vb u : Value} {hs : List Hd} {F : Nat → Prop} {xs : List Value} (K : KAt W base wb ps v hs F) (ou : W.ownsRow b1 5 1 u n xs) (hne : ∀ k, u.ownBlock = some k → vb.ownBlock ≠ some k) (st : Step (KS wb v vb) W W') : W'.ownsRow b1 5 1 u n xs :=
 own_step ou st (fun k hk => by
  obtain ⟨cur, hc⟩ := own_row ou hk
  rintro (x | x | x)
  ·exact hne k hk x
  ·rw [x, K.blk] at hc
   cases hc
  ·exact own_blk_ne hc K.own (by decide) x)
theorem blk_kept {W W' : World} {base wb b1 n r t : Nat} {ps v vb : Value} {hs : List Hd} {F : Nat → Prop} {ys : List Value} {A : Array Value} (K : KAt W base wb ps v hs F) (ob : W.ownsRow b1 5 1 vb n ys) (h : W.heap[r]? = some (.cells A t (0, 0))) (h1 : t ≠ 5) (h2 : t ≠ 89) (h3 : t ≠ 70) (st : Step (KS wb v vb) W W') : W'.heap[r]? = some (.cells A t (0, 0)) :=
 st.at_ h (by
  rintro (x | x | x)
  ·exact own_blk_ne h ob h1 x
  ·rw [x, K.blk] at h
   simp only [Option.some.injEq, Obj.cells.injEq] at h
   exact h3 h.2.1.symm
  ·exact own_blk_ne h K.own h2 x)
theorem PackIs.len {wrap way : Int} {b : ByteArray} {L : List Nat} {e : Nat} (h : PackIs wrap way b L e) : L.length ≤ 9000000 := by
 rcases h with ⟨_, rfl, _⟩ | ⟨_, _, rfl, _⟩ | ⟨_, _, _, rfl, _⟩ | ⟨_, _, hb, _, bits, P, h1, _, h3, rfl⟩
 ·simp
 ·simp
 ·simp
 ·have h4 := any_len h1 (by rw [bytesOf_length]; exact hb)
  have h5 := around_len wrap.toNat P (bytesOf b)
  omega
structure Kst (w : World) (wb : Nat) (ps v0 : Value) (W : World) (v : Value) (hs : List Hd) (F : Nat → Prop) : Prop where
 at_ : KAt W 4 wb ps v hs F
 mv : ∀ k, v.ownBlock = some k → v0.ownBlock = some k ∨ w.heap.size ≤ k
 st : Step (fun k => k = wb ∨ v0.ownBlock = some k) w W
theorem Kst.keep {w W W' : World} {wb b1 n : Nat} {ps v0 v vb v' : Value} {hs hs' : List Hd} {F F' : Nat → Prop} {ys : List Value} (h : Kst w wb ps v0 W v hs F) (ob : W.ownsRow b1 5 1 vb n ys) (hb : w.heap.size ≤ b1) (K' : KAt W' 4 wb ps v' hs' F') (mv : ∀ k, v'.ownBlock = some k → v.ownBlock = some k ∨ W.heap.size ≤ k) (st : Step (KS wb v vb) W W') : Kst w wb ps v0 W' v' hs' F' :=
 ⟨K', fun k hk => by
  rcases mv k hk with y | y
  ·exact h.mv k y
  ·exact .inr (Nat.le_trans h.st.size y), h.st.trans' st (fun k hk x => by
  rcases x with x | x | x
  ·have := (ob.lt k x).1
   omega
  ·exact .inl x
  ·rcases h.mv k x with y | y
   ·exact .inr y
   ·omega)⟩
theorem Kst.step0 {w W W' : World} {wb : Nat} {ps v0 v : Value} {hs : List Hd} {F : Nat → Prop} (h : Kst w wb ps v0 W v hs F) (st : Step (fun _ => False) W W') : Kst w wb ps v0 W' v hs F :=
 ⟨h.at_.step0 st, h.mv, h.st.trans (st.mono (fun _ x => x.elim))⟩
theorem packed_ok (wb : Nat) (kind nn wrap way most : Int) (b : ByteArray) (ps v : Value) (hs : List Hd) (F : Nat → Prop) (w : World) (K : KAt w 4 wb ps v hs F) (hO : OrderAt w) (h4 : 4 ≤ w.heap.size) (hw4 : 4 ≤ wb) (hb : b.size ≤ 1048576) (hl : hs.length ≤ 24000000000) :
  Calls Tryz.prog 44 #[.pointer (some ⟨wb, 0, none⟩), opV kind nn wrap way b most] w fun r w' => r = .returned (.bool true) ∧ ∃ v' hs', KAt w' 4 wb ps v' hs' (fun k => k < w'.heap.size) ∧ (hs.length < hs'.length ∧ hs'.length ≤ hs.length + 12) ∧ OrderAt w' ∧ (∀ k, v'.ownBlock = some k → v.ownBlock = some k ∨ w.heap.size ≤ k) ∧ Step (fun k => k = wb ∨ v.ownBlock = some k) w w' := by
 have mixed : Tryz.prog.follows .mixedOrders = true := by kernel_rfl
 have HK := hide K.lt
 have HO := hide hO
 clear K hO
 unfold opV
 go_enter Tryz.func44, Tryz.ntmps44
 go_wp2_with fail
 obtain ⟨R0, hR0⟩ : ∃ R0, R0 = w.heap.size := ⟨_, rfl⟩
 obtain ⟨w1, hw1⟩ : ∃ w1, w1 = w.alloc (.cells #[.int .i64 kind, .int .i64 nn, .int .i64 wrap, .int .i64 way, .string b, .int .i64 most] 25) := ⟨_, rfl⟩
 have hs1 : Step (fun _ => False) w w1 := by rw [hw1]; exact (Step.refl _ _).alloc _
 have hop : w1.heap[R0]? = some (.cells #[.int .i64 kind, .int .i64 nn, .int .i64 wrap, .int .i64 way, .string b, .int .i64 most] 25 (0, 0)) := by rw [hw1, hR0]; exact heap_alloc_new _ _
 have hz1 : w1.heap.size = R0 + 1 := by rw [hw1, hR0]; simp
 rw [← hw1, ← hR0]
 have HRE := hide hR0
 clear hw1 hR0
 refine (lent_ok b w1 (by omega)).mono ?_
 rintro r w2 ⟨rfl, row2, hs2⟩
 obtain ⟨B, hB⟩ : ∃ B, B = w1.heap.size := ⟨_, rfl⟩
 rw [← hB] at row2 ⊢
 have hop2 := hs2.at_ hop (fun x => x)
 have c2 := blk_cell hop2 2 _ rfl
 have c3 := blk_cell hop2 3 _ rfl
 have c4 := blk_cell hop2 4 _ rfl
 have hB2 : B < w2.heap.size := row2.lt
 have hs02 := hs1.trans hs2
 have hz02 := hs02.size
 have HPK := hide (fun W (hW : Step (fun _ => False) w2 W) => packL_ok wrap way b B W (row2.step hW (fun x => x)) (by omega) ((unhide HO).step (hs02.trans hW) (fun _ _ x => x)) (Nat.le_trans h4 (hs02.trans hW).size))
 have HHB := hide (show B = R0 + 1 by omega)
 have HS2 := hide hs02
 have HROW := hide row2
 have HOP := hide hop2
 clear hs1 hs2 hop hop2 hz1 hB row2 hs02
 have hbn : (0 : Int) ≤ (b.size : Int) := by omega
 have hbl : (b.size : Int) ≤ (b.size : Int) + 8 := by omega
 have hR0 : R0 < w2.heap.size := by have := unhide HHB; omega
 have hp1 := unhide HPK w2.drew ((Step.refl _ _).drew)
 have HP1 := hide hp1
 clear hp1
 go_upto_region 2 with fail
 go_cut [6, 7] (fun p e wc => ∃ (pa : Option Addr) (pc : Nat) (L3 : List Nat) (e3 : Nat), p = .slice pa L3.length pc ∧ e = .int .i64 ((e3 : Nat) : Int) ∧ PackIs wrap way b L3 e3 ∧ wc.ownsRow w2.heap.size 5 1 (.slice pa L3.length pc) L3.length (u8s L3) ∧ Step (fun _ => False) w2 wc)
 case first =>
  go_region_held3 (fun w' => w'.cell? ⟨R0, 2, none⟩ = some (.int .i64 wrap) ∧ w'.cell? ⟨R0, 3, none⟩ = some (.int .i64 way) ∧ w'.cell? ⟨R0, 4, none⟩ = some (.string b)) (go_keep)
   (first | (go_at_call 26; refine (unhide HP1).mono ?_; rintro r w3 ⟨v3, L3, e3, rfl, hi3, own3, hs3⟩; obtain ⟨pa, pc, rfl⟩ := own_slc own3; have k2 := hs3.cell (p := ⟨R0, 2, none⟩) (w := w2.drew) c2 (fun x => x); have k3 := hs3.cell (p := ⟨R0, 3, none⟩) (w := w2.drew) c3 (fun x => x); have k4 := hs3.cell (p := ⟨R0, 4, none⟩) (w := w2.drew) c4 (fun x => x)))
  all_goals go_wp2_with fail
  all_goals go_meet
  all_goals exact ⟨pa, pc, L3, e3, rfl, rfl, hi3, own3, ((Step.refl _ _).drew).trans hs3⟩
 case rest =>
  obtain ⟨pa, pc, L, e, rfl, rfl, hi3, own3, hs3⟩ := hcut
  obtain ⟨w3, h⟩ : ∃ W, W = wc := ⟨_, rfl⟩
  subst h
  have d2 := hs3.cell c2 (fun x => x)
  have d3 := hs3.cell c3 (fun x => x)
  have d4 := hs3.cell c4 (fun x => x)
  have hz3 := hs3.size
  have HP2 := hide (unhide HPK w3.drew (hs3.drew))
  have HI3 := hide hi3
  have HO3 := hide own3
  have HS3 := hide hs3
  clear hi3 own3 hs3 c2 c3 c4 HP1
  go_upto_region 3 with fail
  go_cut [8, 9] (fun p f wc => ∃ (qa : Option Addr) (qc : Nat), p = .slice qa L.length qc ∧ f = .int .i64 ((e : Nat) : Int) ∧ wc.ownsRow w3.heap.size 5 1 (.slice qa L.length qc) L.length (u8s L) ∧ Step (fun _ => False) w3 wc)
  case first =>
   go_region_held3 (fun w' => w'.cell? ⟨R0, 2, none⟩ = some (.int .i64 wrap) ∧ w'.cell? ⟨R0, 3, none⟩ = some (.int .i64 way) ∧ w'.cell? ⟨R0, 4, none⟩ = some (.string b)) (go_keep)
    (first | (go_at_call 26; refine (unhide HP2).mono ?_; rintro r w4 ⟨v4, L4, e4, rfl, hi4, own4, hs4⟩; obtain ⟨rfl, rfl⟩ := hi4.one (unhide HI3); obtain ⟨qa, qc, rfl⟩ := own_slc own4; have k2 := hs4.cell (p := ⟨R0, 2, none⟩) (w := w3.drew) d2 (fun x => x); have k3 := hs4.cell (p := ⟨R0, 3, none⟩) (w := w3.drew) d3 (fun x => x); have k4 := hs4.cell (p := ⟨R0, 4, none⟩) (w := w3.drew) d4 (fun x => x)))
   all_goals go_wp2_with fail
   all_goals go_meet
   all_goals exact ⟨qa, qc, rfl, rfl, own4, ((Step.refl _ _).drew).trans hs4⟩
  case rest =>
   obtain ⟨qa, qc, rfl, rfl, own4, hs4⟩ := hcut
   obtain ⟨w4, h⟩ : ∃ W, W = wc := ⟨_, rfl⟩
   subst h
   have hs24 := (unhide HS3).trans hs4
   have f2 := hs4.cell d2 (fun x => x)
   have f3 := hs4.cell d3 (fun x => x)
   have f4 := hs4.cell d4 (fun x => x)
   have o3 := own_step (unhide HO3) hs4 (fun _ _ x => x)
   have hz4 := hs4.size
   have HST := hide (fun W (hW : Step (fun _ => False) w4 W) => still_ok B b W ((unhide HROW).step (hs24.trans hW) (fun x => x)) (by omega))
   have hst0 := unhide HST w4 (Step.refl _ _)
   have HST0 := hide hst0
   have HO4 := hide own4
   have HP3 := hide o3
   have HS24 := hide hs24
   have HCV := hide (fun (W : World) (hW : Step (fun _ => False) w4 W) => And.intro (conv_row (own_step o3 hW (fun _ _ x => x))) (conv_row (own_step own4 hW (fun _ _ x => x))))
   clear hs24 own4 hs4 o3 d2 d3 d4 hst0 HP2
   go_wp2_with (first
    | (go_at_call 68; refine (unhide HST0).mono ?_; rintro r w5 ⟨rfl, hs5⟩; obtain ⟨cv1, cv2⟩ := unhide HCV w5 hs5; have HS5 := hide hs5; clear hs5))
   have hs25 := (unhide HS24).trans (unhide HS5)
   have hs05 := (unhide HS2).trans hs25
   have hz5 := (unhide HS5).size
   have hBm : b.size + 8 ≤ maxLen := by unfold maxLen; omega
   have hBw : w.heap.size + 1 = B := by rw [unhide HHB, unhide HRE]
   obtain ⟨ys, ob⟩ := lent_own (base := w.heap.size) ((unhide HROW).step hs25 (fun x => x)) (by omega) hBm
   have K5 : Kst w wb ps v w5 v hs (fun k => k < w.heap.size) := ⟨(unhide HK).step0 hs05, fun k hk => .inl hk, hs05.mono (fun _ x => x.elim)⟩
   have p5 := own_step (unhide HP3) (unhide HS5) (fun _ _ x => x)
   have a5 := own_step (unhide HO4) (unhide HS5) (fun _ _ x => x)
   have r5 := hs25.at_ (unhide HOP) (fun x => x)
   have hz02 := (unhide HS2).size
   have g3 : ∀ k, (Value.slice pa L.length pc).ownBlock = some k → w2.heap.size ≤ k ∧ k < w3.heap.size := fun k hk => (unhide HO3).lt k hk
   have g4 : ∀ k, (Value.slice qa L.length qc).ownBlock = some k → w3.heap.size ≤ k ∧ k < w4.heap.size := fun k hk => (unhide HO4).lt k hk
   have HKP := hide (keep_ok 4 wb (b.size + 8) ps v _ hs _ ys w5 K5.at_ (fun k hk x => by have := blk_eq hk; omega) (ownsRow_mono ob h4) (by have := hs05.size; omega) (by omega) (by omega))
   have HX5 := hide (And.intro K5 (And.intro ob (And.intro p5 (And.intro a5 r5))))
   have HG3 := hide g3
   have HG4 := hide g4
   clear hs25 hs05 ob K5 p5 a5 r5 g3 g4 HST0 HST HCV HP3 HROW HOP cv1 cv2 f2 f3 f4 HPK
   refine (unhide HKP).mono ?_
   rintro r w6 ⟨rfl, v6, hs6, K6, hl6, mv6, st6⟩
   obtain ⟨K5, ob, p5, a5, r5⟩ := unhide HX5
   have J6 := K5.keep ob (Nat.le_refl _) K6 mv6 st6
   have p6 := own_kept K5.at_ p5 (fun k hk x => by have := blk_eq x; have := (unhide HG3 k hk).1; omega) st6
   have a6 := own_kept K5.at_ a5 (fun k hk x => by have := blk_eq x; have := (unhide HG4 k hk).1; omega) st6
   have r6 := blk_kept K5.at_ ob r5 (by decide) (by decide) (by decide) st6
   have hz6 := st6.size
   have hz05 := K5.st.size
   have HKP6 := hide (keep_ok 4 wb L.length ps v6 _ hs6 _ _ w6 J6.at_ (fun k hk x => by
    have := unhide HG4 k hk
    rcases x with x | x | x
    ·omega
    ·have := blk_eq x; omega
    ·omega) (ownsRow_mono a6 (by omega)) (by omega) (by have := (unhide HI3).len; omega) (by omega))
   have HX6 := hide (And.intro J6 (And.intro p6 (And.intro a6 r6)))
   clear K5 ob p5 a5 r5 J6 p6 a6 r6 K6 mv6 st6 HKP HX5
   go_wp2_with fail
   refine (unhide HKP6).mono ?_
   rintro r w7 ⟨rfl, v7, hs7, K7, hl7, mv7, st7⟩
   obtain ⟨J6, p6, a6, r6⟩ := unhide HX6
   have J7 := J6.keep a6 (by omega) K7 mv7 st7
   have p7 := own_kept J6.at_ p6 (fun k hk x => by have := unhide HG3 k hk; have := unhide HG4 k x; omega) st7
   have r7 := blk_kept J6.at_ a6 r6 (by decide) (by decide) (by decide) st7
   have hz7 := st7.size
   have hov : ∀ k, v.ownBlock = some k → 4 ≤ k := fun k hk => ((unhide HK).own.lt k hk).1
   have hlt7 : ∀ k, (Value.slice pa L.length pc).ownBlock = some k → ¬ (KF w6 (KF w5 (fun k => k < w.heap.size) (.slice (some ⟨B, 0, none⟩) (b.size + 8) (b.size + 8))) (.slice qa L.length qc)) k := fun k hk x => by
    have := unhide HG3 k hk
    rcases x with (x | x | x) | x | x
    ·omega
    ·have := blk_eq x; omega
    ·omega
    ·have := unhide HG4 k x; omega
    ·omega
   have hfin : ∀ (W : World) (v' : Value) (hs' : List Hd) (F' : Nat → Prop), Kst w wb ps v W v' hs' F' → (hs.length < hs'.length ∧ hs'.length ≤ hs.length + 12) → ∃ v' hs', KAt W 4 wb ps v' hs' (fun k => k < W.heap.size) ∧ (hs.length < hs'.length ∧ hs'.length ≤ hs.length + 12) ∧ OrderAt W ∧ (∀ k, v'.ownBlock = some k → v.ownBlock = some k ∨ w.heap.size ≤ k) ∧ Step (fun k => k = wb ∨ v.ownBlock = some k) w W := fun W v' hs' F' J hl =>
    ⟨v', hs', J.at_.lt, hl, (unhide HO).step J.st (fun k hk x => by
     rcases x with x | x
     ·omega
     ·have := hov k x
      omega), J.mv, J.st⟩
   have HFIN := hide hfin
   have HLT7 := hide hlt7
   have b2 := blk_cell r7 2 _ rfl
   have b3 := blk_cell r7 3 _ rfl
   have b4 := blk_cell r7 4 _ rfl
   have hr7 := lt_of_block r7
   have hln : hs7.length = hs.length + 8 := by omega
   have HJ7 := hide J7
   have HP7 := hide p7
   have HR7 := hide r7
   clear K7 mv7 st7 J6 p6 a6 r6 J7 p7 r7 HKP6 HX6 hfin hlt7 hov hl7 hl6
   rcases unhide HI3 with ⟨k1, hL, he⟩ | ⟨k1, k2, hL, he⟩ | ⟨k1, k2, k3, hL, he⟩ | ⟨k1, k2, k3, he, bits, P, k4, k5, k6, hL⟩
   ·subst he
    have hl0 : L.length = 0 := by rw [hL]; rfl
    rw [hl0]
    clear hL hl0
    by_cases kn : wrap < 0
    ·clear k1
     go_wp2_with fail
     go_ret
     exact ⟨rfl, unhide HFIN _ _ _ _ (unhide HJ7) (by omega)⟩
    ·have kp : wrap > 2 := by omega
     clear k1
     go_wp2_with fail
     go_ret
     exact ⟨rfl, unhide HFIN _ _ _ _ (unhide HJ7) (by omega)⟩
   ·subst he
    have hl0 : L.length = 0 := by rw [hL]; rfl
    rw [hl0]
    clear hL hl0
    have k3 : ¬ wrap < 0 := by omega
    have k4 : ¬ wrap > 2 := by omega
    by_cases kn : way < 0
    ·clear k1 k2
     go_wp2_with fail
     go_ret
     exact ⟨rfl, unhide HFIN _ _ _ _ (unhide HJ7) (by omega)⟩
    ·have kp : way > 2 := by omega
     clear k1 k2
     go_wp2_with fail
     go_ret
     exact ⟨rfl, unhide HFIN _ _ _ _ (unhide HJ7) (by omega)⟩
   ·omega
   ·subst he
    obtain ⟨k, rfl⟩ : ∃ k : Nat, wrap = (k : Int) := ⟨wrap.toNat, by omega⟩
    obtain ⟨y, rfl⟩ : ∃ y : Nat, way = (y : Int) := ⟨way.toNat, by omega⟩
    have hkk : k ≤ 2 := by omega
    have hyy : y ≤ 2 := by omega
    rw [show ((k : Int)).toNat = k by omega] at hL
    rw [show ((y : Int)).toNat = y by omega] at k4
    have e1 : ¬ (k : Int) < 0 := by omega
    have e2 : ¬ (k : Int) > 2 := by omega
    have e3 : ¬ (y : Int) < 0 := by omega
    have e4 : ¬ (y : Int) > 2 := by omega
    have e5 : ¬ (b.size : Int) > 1048576 := by omega
    have hle := any_least k4
    have HRU := hide (fun W => ref_reads k y b bits P hkk k3 k4 k5 k6 W)
    have hlp : L.length = (bits.length + 7) / 8 + wrappedP k := by rw [hL, ← k6]; exact wrapped_more k P (bytesOf b)
    rw [bytesOf_length] at hle
    have HHL := hide (And.intro hL hlp)
    have HLE := hide hle
    have HCV := hide (fun (W : World) (hW : Step (fun _ => False) w7 W) => conv_row (own_step (unhide HP7) hW (fun _ _ x => x)))
    have cv := conv_row (unhide HP7)
    have cvd := unhide HCV w7.drew ((Step.refl _ _).drew)
    have hru : ∀ W : World, Calls Tryz.prog 67 #[.int .i64 (k : Nat), .string (strOf L), .int .i64 (b.size : Nat)] W
      (fun r w' => ∃ v', r = .returned (.agg #[.int .i64 ((0 : Nat) : Int), v', .int .i64 (L.length : Nat), .string ⟨#[]⟩]) ∧ w'.ownsRow W.heap.size 5 1 v' b.size (u8s (bytesOf b)) ∧ Step (fun _ => False) W w') := fun W => by
     have h9 := unhide HRU W
     rw [← hL] at h9
     exact h9
    have HU := hide hru
    clear hru hL hlp hle k1 k2 k4 k5 k6 HRU
    have HU0 := hide (unhide HU w7)
    go_upto_region 15 with (first
     | (go_at_call 67; refine (unhide HU0).mono ?_; rintro r w8 ⟨v8, rfl, own8, hs8⟩; obtain ⟨xa, xc, rfl⟩ := own_slc own8; have HX8 := hide (And.intro own8 hs8); clear own8 hs8))
    obtain ⟨own8, hs8⟩ := unhide HX8
    obtain ⟨w9, hw9⟩ : ∃ W, W = w8.alloc (.cells #[.int .i64 0, .slice xa b.size xc, .int .i64 (L.length : Nat), .string ⟨#[]⟩] 45) := ⟨_, rfl⟩
    have hs89 : Step (fun _ => False) w8 w9 := by rw [hw9]; exact (Step.refl _ _).alloc _
    have hq9 : w9.heap[w8.heap.size]? = some (.cells #[.int .i64 0, .slice xa b.size xc, .int .i64 (L.length : Nat), .string ⟨#[]⟩] 45 (0, 0)) := by rw [hw9]; exact heap_alloc_new _ _
    rw [← hw9]
    obtain ⟨T, hT⟩ : ∃ T, T = w8.heap.size := ⟨_, rfl⟩
    rw [← hT] at hq9 ⊢
    have hs79 := hs8.trans hs89
    have r9 := hs79.at_ (unhide HR7) (fun x => x)
    have l2 := blk_cell r9 2 _ rfl
    have l3 := blk_cell r9 3 _ rfl
    have l4 := blk_cell r9 4 _ rfl
    have o9 := own_step own8 hs89 (fun _ _ x => x)
    have gq : ∀ k, (Value.slice xa b.size xc).ownBlock = some k → w7.heap.size ≤ k := fun k hk => (own8.lt k hk).1
    have hr9 := lt_of_block r9
    have hz9 := hs79.size
    have HX9 := hide (And.intro hs79 (And.intro hq9 (And.intro r9 o9)))
    have HGQ := hide gq
    have hTl := lt_of_block hq9
    obtain ⟨M, hM⟩ : ∃ M, M = leastP y b.size := ⟨_, rfl⟩
    obtain ⟨V, hV⟩ : ∃ V, V = wrappedP k := ⟨_, rfl⟩
    have hml : ∀ W : World, Calls Tryz.prog 71 #[.int .i64 (y : Nat), .int .i64 (b.size : Nat)] W fun r w' => r = .returned (.int .i64 (M : Nat)) ∧ w' = W := fun W => by rw [hM]; exact least_ok y b.size W hyy k3
    have hwv : ∀ W : World, Calls Tryz.prog 72 #[.int .i64 (k : Nat)] W fun r w' => r = .returned (.int .i64 (V : Nat)) ∧ w' = W := fun W => by rw [hV]; exact wrapped_ok k W hkk
    have HML := hide hml
    have HWV := hide hwv
    have hMb : M ≤ 100000000 := by rw [hM]; unfold leastP storedP fixedP blocksP; split <;> (try split) <;> omega
    have hVb : V ≤ 18 := by rw [hV]; unfold wrappedP; split <;> (try split) <;> omega
    have HMV := hide (And.intro hM hV)
    clear hml hwv own8 hs8 hw9 hs89 hq9 hT hs79 r9 o9 gq hM hV HX8 HU HU0 b2 b3 b4 cv cvd HCV
    go_cut [13] (fun l wd => l = .int .i64 ((M + V : Nat) : Int) ∧ Step (fun _ => False) w9 wd)
    case first =>
     have wMV : IntKind.i64.wrap ((M : Int) + (V : Int)) = ((M + V : Nat) : Int) := by rw [IntKind.wrap_i64]; omega
     go_quiet (first
      | (go_at_call 71; exact Calls.quiet_of_same (unhide HML _))
      | (go_at_call 72; exact Calls.quiet_of_same (unhide HWV _)))
     go_wp2_with fail
     go_meet
     exact ⟨by first | rfl | go_num, (Step.refl _ _).drewN _⟩
    case rest =>
     obtain ⟨rfl, hs9d⟩ := hcut
     obtain ⟨wd, h⟩ : ∃ W, W = wc := ⟨_, rfl⟩
     subst h
     obtain ⟨hs79, hq9, r9, o9⟩ := unhide HX9
     have hs7d := hs79.trans hs9d
     have Jd := (unhide HJ7).step0 hs7d
     have pd := own_step (unhide HP7) hs7d (fun _ _ x => x)
     have qd := hs9d.at_ hq9 (fun x => x)
     have rd := hs9d.at_ r9 (fun x => x)
     have od := own_step o9 hs9d (fun _ _ x => x)
     have hzd := hs7d.size
     have hz0d := Jd.st.size
     have HKP := hide (keep_ok 4 wb L.length ps v7 _ hs7 _ _ wd Jd.at_ (unhide HLT7) (ownsRow_mono pd (by omega)) (by omega) (by have := (unhide HI3).len; omega) (by omega))
     have HXD := hide (And.intro Jd (And.intro pd (And.intro qd (And.intro rd od))))
     have hres : L.length = M + V ∨ (L.length < M + V ∧ 0 < y) := by
      obtain ⟨h1, h2⟩ := unhide HMV
      have h3 := unhide HLE
      have h5 := (unhide HHL).2
      rw [← h2] at h5
      rw [← h1] at h3
      omega
     have HRES := hide hres
     clear hs79 hq9 r9 o9 hs7d Jd pd qd rd od hs9d HX9 HJ7 HP7 HR7 hres l2 l3 l4
     rename_i K9 hK9
     refine hK9 _ _ ?_
     go_wp2_with fail
     refine (unhide HKP).mono ?_
     rintro r we ⟨rfl, v8, hs8, K8, hl8, mv8, st8⟩
     obtain ⟨Jd, pd, qd, rd, od⟩ := unhide HXD
     have Je := Jd.keep pd (by omega) K8 mv8 st8
     have qe := blk_kept Jd.at_ pd qd (by decide) (by decide) (by decide) st8
     have re := blk_kept Jd.at_ pd rd (by decide) (by decide) (by decide) st8
     have oe := own_kept Jd.at_ od (fun k hk x => by have := unhide HGQ k hk; have := unhide HG3 k x; omega) st8
     have HF := hide (unhide HFIN _ _ _ _ Je (by omega))
     have m0 := blk_cell qe 0 _ rfl
     have m1 := blk_cell qe 1 _ rfl
     have m2 := blk_cell qe 2 _ rfl
     have m3 := blk_cell qe 3 _ rfl
     have n3 := blk_cell re 3 _ rfl
     have n4 := blk_cell re 4 _ rfl
     have hTe := lt_of_block qe
     have hRe := lt_of_block re
     have oe2 : we.ownsRow w7.heap.size 5 1 (.slice xa b.size xc) (bytesOf b).length (u8s (bytesOf b)) := by rw [bytesOf_length]; exact oe
     have cw0 := owned_string (s := b) (W := we) oe2 (fun _ _ => rfl)
     have cw1 := owned_string (s := b) (W := we.drew) oe2 (fun _ _ => rfl)
     clear Jd pd qd rd od Je qe re oe oe2 K8 mv8 st8 HKP HXD
     have hres := unhide HRES
     obtain ⟨Z, hZ⟩ : ∃ Z, Z = M + V := ⟨_, rfl⟩
     obtain ⟨n, hn⟩ : ∃ n, n = L.length := ⟨_, rfl⟩
     rw [← hZ, ← hn] at hres
     rw [← hn] at m2
     rw [← hZ, ← hn]
     clear hZ hn HRES hMb hVb HML HWV HMV HLE HHL
     rcases hres with hr | ⟨hr, hr2⟩
     ·subst hr
      go_wp2_with fail
      go_ret
      exact ⟨rfl, unhide HF⟩
     ·have hrb : ((n : Int) == (Z : Int)) = false := beq_eq_false_iff_ne.2 (by omega)
      have hrl : (n : Int) < (Z : Int) := by omega
      have hyp : (y : Int) > 0 := by omega
      have HY := hide hr2
      clear hr hr2
      go_wp2_with fail
      go_ret
      refine ⟨?_, unhide HF⟩
      show Ending.returned (.bool (decide (0 < y))) = _
      rw [decide_eq_true (unhide HY)]
end Go.Proofs.YtbpahojchgpdnaaGreatDoor
namespace Go.Proofs.YtbpahojchgpdnaaGreatDoor
open Go.RowKit Go.Bel
theorem holds_step {w w' : World} {v : Value} {ops : List OpS} (h : Holds w v ops) (hs : Step (fun _ => False) w w') : Holds w' v ops := by
 rcases h with h | ⟨g, off, cap, rfl, hS⟩
 ·exact .inl h
 ·exact .inr ⟨g, off, cap, rfl, hS.step hs (fun x => x)⟩
end Go.Proofs.YtbpahojchgpdnaaGreatDoor
namespace Go.Proofs.YtbpahojchgpdnaaGreatDoor
open Go.RowKit Go.Bel
theorem step_pack (wb : Nat) (nn wrap way most : Int) (b : ByteArray) (ps v : Value) (hs : List Hd) (F : Nat → Prop) (w : World) (K : KAt w 4 wb ps v hs F) (hO : OrderAt w) (h4 : 4 ≤ w.heap.size) (hw4 : 4 ≤ wb) (hb : b.size ≤ 1048576) (hl : hs.length ≤ 24000000000) :
  Calls Tryz.prog 32 #[.pointer (some ⟨wb, 0, none⟩), opV 5 nn wrap way b most] w fun r w' => r = .returned (.bool true) ∧ ∃ v' hs', KAt w' 4 wb ps v' hs' (fun k => k < w'.heap.size) ∧ (hs.length < hs'.length ∧ hs'.length ≤ hs.length + 12) ∧ OrderAt w' ∧ (∀ k, v'.ownBlock = some k → v.ownBlock = some k ∨ w.heap.size ≤ k) ∧ Step (fun k => k = wb ∨ v.ownBlock = some k) w w' := by
 have h1 : Step (fun _ => False) w (w.alloc (.cells #[.int .i64 5, .int .i64 nn, .int .i64 wrap, .int .i64 way, .string b, .int .i64 most] 25)) := (Step.refl _ _).alloc _
 have HU := hide (packed_ok wb 5 nn wrap way most b ps v hs F _ (K.step0 h1) (hO.step h1 (fun _ _ x => x)) (Nat.le_trans h4 h1.size) hw4 hb hl)
 have H1 := hide h1
 clear K hO h1
 unfold opV at HU ⊢
 go_enter Tryz.func32, Tryz.ntmps32
 go_wp2_with fail
 refine (unhide HU).mono ?_
 rintro r w2 ⟨rfl, v', hs', K', hl', hO', hm', st⟩
 have HF := hide (show ∃ v' hs', (KAt w2 4 wb ps v' hs' fun k => k < w2.heap.size) ∧ (hs.length < hs'.length ∧ hs'.length ≤ hs.length + 12) ∧ OrderAt w2 ∧ (∀ k, v'.ownBlock = some k → v.ownBlock = some k ∨ w.heap.size ≤ k) ∧ Step (fun k => k = wb ∨ v.ownBlock = some k) w w2 from
  ⟨v', hs', K', hl', hO', fun k hk => (hm' k hk).imp id (fun x => Nat.le_trans (unhide H1).size x), ((unhide H1).mono (fun _ x => x.elim)).trans st⟩)
 clear HU K' hl' hO' hm' st
 go_wp2_with fail
 go_ret
 exact ⟨rfl, unhide HF⟩
structure UpJ (w wr : World) (wb i : Nat) (v : Value) (hs : List Hd) : Prop where
 at_ : KAt wr 4 wb (.slice none 0 0) v hs (fun k => k < wr.heap.size)
 len : hs.length ≤ 12 * i
 order : OrderAt wr
 new : ∀ k, v.ownBlock = some k → w.heap.size ≤ k
 step : Step (fun _ => False) w wr
theorem UpJ.next {w wr w2 : World} {wb i : Nat} {v v' : Value} {hs hs' : List Hd} (I : UpJ w wr wb i v hs) (hw : w.heap.size ≤ wb) (K : KAt w2 4 wb (.slice none 0 0) v' hs' (fun k => k < w2.heap.size)) (hl : hs.length < hs'.length ∧ hs'.length ≤ hs.length + 12) (hO : OrderAt w2) (hm : ∀ k, v'.ownBlock = some k → v.ownBlock = some k ∨ wr.heap.size ≤ k) (st : Step (fun k => k = wb ∨ v.ownBlock = some k) wr w2) : UpJ w w2 wb (i + 1) v' hs' :=
 ⟨K, by have := I.len; omega, hO, fun k hk => by
  rcases hm k hk with x | x
  ·exact I.new k x
  ·exact Nat.le_trans I.step.size x, I.step.trans' st (fun k hk x => by
  rcases x with x | x
  ·omega
  ·have := I.new k x
   omega)⟩
theorem UpJ.step0 {w wr w2 : World} {wb i : Nat} {v : Value} {hs : List Hd} (I : UpJ w wr wb i v hs) (h : Step (fun _ => False) wr w2) : UpJ w w2 wb i v hs :=
 ⟨(I.at_.step0 h).lt, I.len, I.order.step h (fun _ _ x => x), I.new, I.step.trans h⟩
theorem UpJ.skip {w wr : World} {wb i : Nat} {v : Value} {hs : List Hd} (I : UpJ w wr wb i v hs) : UpJ w wr wb (i + 1) v hs :=
 ⟨I.at_, by have := I.len; omega, I.order, I.new, I.step⟩
theorem UpJ.holds {w wr : World} {wb i : Nat} {v : Value} {hs : List Hd} (I : UpJ w wr wb i v hs) (h0 : 0 < hs.length) (hi : i ≤ 1000000000) : ∃ gh cap, HoldsAt wr wb gh hs.length cap := by
 have own := I.at_.own
 have hb := I.at_.blk
 have hlen := I.len
 obtain ⟨_, ⟨_, hz⟩ | ⟨g, cap, cur, hv, _⟩⟩ := own
 ·omega
 ·have own := I.at_.own
  subst hv
  refine ⟨g, cap, blk_cell hb 1 _ rfl, fun j hj => ?_, by omega⟩
  have hc := own.cellAt j (by omega)
  rw [List.getElem?_map, List.getElem?_eq_getElem hj] at hc
  exact ⟨_, _, _, _, hc, (I.at_.each _ (List.getElem_mem hj)).1.hold⟩
theorem upto5_ok (g off cap : Nat) (ops : List OpS) (w : World) (hS : ScriptAt w g off ops) (hA : ∀ o ∈ ops, o.kind = 5 → o.s.size ≤ 1048576) (hO : OrderAt w) (h4 : 4 ≤ w.heap.size) (hl : ops.length ≤ 1000000000) :
  Calls Tryz.prog 15 #[.slice (some ⟨g, off, none⟩) ops.length cap, .int .i64 5, .int .i64 5] w fun r w' => r = .returned (.int .i64 (-1)) ∧ Step (fun _ => False) w w' := by
 have HS := hide hS
 have HA := hide hA
 have h0 : Step (fun _ => False) w (w.alloc (.cells #[.slice none 0 0, .slice none 0 0] 70)) := (Step.refl _ _).alloc _
 have I0 : UpJ w (w.alloc (.cells #[.slice none 0 0, .slice none 0 0] 70)) w.heap.size 0 (.slice none 0 0) [] :=
  ⟨⟨heap_alloc_new _ _, World.ownsRow_nil _ _ _ _, fun q hq => by cases hq⟩, by simp, hO.step h0 (fun _ _ x => x), (fun k hk => by cases hk), h0⟩
 have HI0 := hide I0
 clear hS hA hO h0 I0
 go_enter Tryz.func15, Tryz.ntmps15
 go_wp2_with fail
 go_loopg [8, 9, 10] ops.length (fun k u8 u9 u10 wr => ∃ (i : Nat) (v' : Value) (hs' : List Hd), u8 = .int .i64 (i : Nat) ∧ k + i = ops.length ∧ UpJ w wr w.heap.size i v' hs')
 case atStart => exact ⟨0, _, _, rfl, by omega, unhide HI0⟩
 case round =>
  obtain ⟨i, v', hs', rfl, hk, I⟩ := hrel
  by_cases hend : i = ops.length
  ·have hnl : ¬ ((i : Int) < (ops.length : Int)) := by omega
   have HF := hide I.step
   clear I
   go_wp2_with fail
   go_ret
   exact ⟨rfl, unhide HF⟩
  ·have hnl : (i : Int) < (ops.length : Int) := by omega
   have hi0 : (0 : Int) ≤ (i : Int) := by omega
   obtain ⟨o, ho⟩ : ∃ o, ops[i]? = some o := ⟨_, List.getElem?_eq_getElem (by omega)⟩
   have hSc := (unhide HS).step I.step (fun x => x)
   have q0 : wr.cell? ⟨g, off + i * 6, none⟩ = some (.int .i64 o.kind) := hSc.cell i o ho 0 (by omega)
   have q1 : wr.cell? ⟨g, off + i * 6 + 1, none⟩ = some (.int .i64 o.nn) := hSc.cell i o ho 1 (by omega)
   have q2 : wr.cell? ⟨g, off + i * 6 + 2, none⟩ = some (.int .i64 o.wrap) := hSc.cell i o ho 2 (by omega)
   have q3 : wr.cell? ⟨g, off + i * 6 + 3, none⟩ = some (.int .i64 o.way) := hSc.cell i o ho 3 (by omega)
   have q4 : wr.cell? ⟨g, off + i * 6 + 4, none⟩ = some (.string o.s) := hSc.cell i o ho 4 (by omega)
   have q5 : wr.cell? ⟨g, off + i * 6 + 5, none⟩ = some (.int .i64 o.most) := hSc.cell i o ho 5 (by omega)
   have HI := hide I
   have HO := hide ho
   clear I hSc ho
   by_cases hk1 : o.kind = 5
   ·rw [hk1] at q0
    have hmem := List.mem_of_getElem? (unhide HO)
    have hag := unhide HA o hmem hk1
    have hlen := (unhide HI).len
    have hsz := (unhide HI).step.size
    have HST := hide (step_pack w.heap.size o.nn o.wrap o.way o.most o.s (.slice none 0 0) v' hs' _ wr (unhide HI).at_ (unhide HI).order (by omega) h4 hag (by omega))
    unfold opV at HST
    clear hmem hag hk1
    go_wp2_with fail
    refine (unhide HST).mono ?_
    rintro r w2 ⟨rfl, v2, hs2, K2, hl2, hO2, hm2, st2⟩
    have I2 := (unhide HI).next (Nat.le_refl _) K2 hl2 hO2 hm2 st2
    obtain ⟨gh, hcap, hh⟩ := I2.holds (by omega) (by omega)
    have HLK := hide (looks_ok w.heap.size gh hs2.length hcap w2 hh)
    have HI2 := hide I2
    clear HST K2 hl2 hO2 hm2 st2 I2 hh HI
    go_wp2_with fail
    refine (unhide HLK).mono ?_
    rintro r w3 ⟨rfl, hs3⟩
    have HI3 := hide ((unhide HI2).step0 hs3)
    clear HLK HI2 hs3
    go_wp2_with fail
    go_roundg (gk - 1)
    case measure => omega
    case rel => exact ⟨i + 1, v2, hs2, rfl, by omega, unhide HI3⟩
   ·rcases Int.lt_or_gt_of_ne hk1 with hlt | hgt
    ·go_wp2_with fail
     go_roundg (gk - 1)
     case measure => omega
     case rel => exact ⟨i + 1, v', hs', rfl, by omega, (unhide HI).skip⟩
    ·have hnlt : ¬ (o.kind < 5) := by omega
     go_wp2_with fail
     go_roundg (gk - 1)
     case measure => omega
     case rel => exact ⟨i + 1, v', hs', rfl, by omega, (unhide HI).skip⟩
theorem upto5_nil (a : Option Addr) (c : Nat) (w : World) : Calls Tryz.prog 15 #[.slice a 0 c, .int .i64 5, .int .i64 5] w fun r w' => r = .returned (.int .i64 (-1)) ∧ Step (fun _ => False) w w' := by
 have h0 : Step (fun _ => False) w (w.alloc (.cells #[.slice none 0 0, .slice none 0 0] 70)) := (Step.refl _ _).alloc _
 have H0 := hide h0
 clear h0
 go_enter Tryz.func15, Tryz.ntmps15
 go_wp2_with fail
 go_loopg [8] 1 (fun k u8 wr => u8 = .int .i64 0 ∧ Step (fun _ => False) w wr)
 case atStart => exact ⟨rfl, unhide H0⟩
 case round =>
  obtain ⟨rfl, hs⟩ := hrel
  go_wp2_with fail
  go_ret
  exact ⟨rfl, hs⟩
theorem upto5_any (v : Value) (ops : List OpS) (w : World) (hS : Holds w v ops) (hA : ∀ o ∈ ops, o.kind = 5 → o.s.size ≤ 1048576) (hO : OrderAt w) (h4 : 4 ≤ w.heap.size) (hl : ops.length ≤ 1000000000) :
  Calls Tryz.prog 15 #[v, .int .i64 5, .int .i64 5] w fun r w' => r = .returned (.int .i64 (-1)) ∧ Step (fun _ => False) w w' := by
 rcases hS with ⟨a, c, rfl, rfl⟩ | ⟨g, off, cap, rfl, hS⟩
 ·exact upto5_nil a c w
 ·exact upto5_ok g off cap ops w hS hA hO h4 hl
theorem example5_ok (wrap : Int) (w : World) (hO : OrderAt w) (h4 : 4 ≤ w.heap.size) :
  Calls Tryz.prog 14 #[.int .i64 5, .int .i64 5, .int .i64 wrap] w fun r w' => r = .returned (.bool true) ∧ Step (fun _ => False) w w' := by
 obtain ⟨w1, hw1⟩ : ∃ w1, w1 = w.alloc (.cells (opCells (examples wrap)).toArray 25) := ⟨_, rfl⟩
 have h1 : Step (fun _ => False) w w1 := by rw [hw1]; exact (Step.refl _ _).alloc _
 have hb : w1.heap[w.heap.size]? = some (.cells (opCells (examples wrap)).toArray 25 (0, 0)) := by rw [hw1]; exact heap_alloc_new _ _
 have HU := hide (upto5_ok w.heap.size 0 8 (examples wrap) w1 (script_of_row hb (by rw [List.toList_toArray, List.take_of_length_le (by rw [opCells_length]; exact Nat.le_refl _)])) (fun o ho _ => by
  simp only [examples, List.mem_cons, List.not_mem_nil, or_false] at ho
  rcases ho with rfl | rfl | rfl | rfl | rfl | rfl | rfl | rfl <;> first | exact Nat.zero_le _ | decide) (hO.step h1 (fun _ _ x => x)) (Nat.le_trans h4 h1.size) (by simp [examples]))
 have H1 := hide h1
 clear hO h1 hb
 go_enter Tryz.func14, Tryz.ntmps14
 go_wp2_with fail
 subst hw1
 refine Calls.mono (unhide HU) ?_
 rintro r w2 ⟨rfl, hs2⟩
 have HF := hide ((unhide H1).trans hs2)
 clear HU H1 hs2
 go_wp2_with fail
 go_ret
 exact ⟨rfl, unhide HF⟩
theorem packs_true (v : Value) (ops : List OpS) (w : World) (hS : Holds w v ops) (hz : ∀ o ∈ ops, o.s.size ≤ 1048576) (hO : OrderAt w) (h4 : 4 ≤ w.heap.size) (hl : ops.length ≤ 1000000000) :
  Calls Tryz.prog 5 #[v] w fun r w' => r = .returned (.bool true) ∧ Step (fun _ => False) w w' := by
 have HE := hide (example5_ok 0 w hO h4)
 have HU := hide (fun w1 (hs : Step (fun _ => False) w w1) => upto5_any v ops w1 (holds_step hS hs) (fun o ho _ => hz o ho) (hO.step hs (fun _ _ x => x)) (Nat.le_trans h4 hs.size) (by omega))
 clear hS hz hO
 go_enter Tryz.func5, Tryz.ntmps5
 go_wp2_with fail
 refine (unhide HE).mono ?_
 rintro r w1 ⟨rfl, hs1⟩
 have HC := hide (unhide HU w1 hs1)
 have H1 := hide hs1
 clear HE HU hs1
 go_wp2_with fail
 refine (unhide HC).mono ?_
 rintro r w2 ⟨rfl, hs2⟩
 have HF := hide ((unhide H1).trans hs2)
 clear hs2 H1 HC
 go_wp2_with fail
 go_ret
 exact ⟨rfl, unhide HF⟩
end Go.Proofs.YtbpahojchgpdnaaGreatDoor
