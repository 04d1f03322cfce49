/- Proved here: the reference's answer, of any kind, by what is said of all bytes. -/
import Derived.Deep.DeepCutAuto
import Derived.Deep.CutBlock
import Derived.Deep.LoopGhost
import Derived.Deep.RegionHeld3
import Derived.Deep.RegionWith
import Derived.Test.YtbpahojchgpdnaaGreatDoorReadE
import Derived.Test.YtbpahojchgpdnaaGreatDoorRefA
namespace Go.Proofs.YtbpahojchgpdnaaGreatDoor
open Go.RowKit Go.Bel
theorem rAll_len {k most : Nat} {B : List Nat} {e : Nat} {out : List Nat} {used : Nat} {nm : List Nat} (hk : k ≤ 2) (h : rAll k B most e out used nm) : out.length ≤ most := by
 have hc : k = 0 ∨ k = 1 ∨ k = 2 := by omega
 unfold rAll at h
 rcases hc with rfl | rfl | rfl
 ·unfold rRest at h
  rw [if_pos (show (rq0 0 most).i = bi 0 from rfl)] at h
  obtain ⟨n, e1, o1, q1, hr, h⟩ := h
  have hr : GRun B n (gInit most) e1 o1 q1 := hr
  have hl := hr.most (by simp [gInit])
  by_cases he : e1 = 0
  ·rw [if_pos he] at h
   rw [h.2.1]; exact hl
  ·rw [if_neg he] at h
   rw [h.2.1]; exact hl
 ·unfold rRest at h
  rw [if_neg (show ¬ (rq0 1 most).i = bi 1 from (by decide : ¬ (0 : Nat) = bi 1)), if_neg (by omega), if_pos rfl] at h
  exact zAll_len h.1.2
 ·rw [rest_0 rfl] at h
  exact (gzAll_used h.2).2.2
theorem rAll_ex {k : Nat} (hk : k ≤ 2) (B : List Nat) (most : Nat) : ∃ e out used nm, rAll k B most e out used nm := by
 have hc : k = 0 ∨ k = 1 ∨ k = 2 := by omega
 rcases hc with rfl | rfl | rfl
 ·obtain ⟨n, e, out, q, hr⟩ := gRun_ex B (gLeft B (gAt most 0) + 1) (gAt most 0) (by simp [gAt]) (by omega)
  have h8 := (gAt_run hr).2.1
  simp only [rAll_0]
  by_cases he : e = 0
  ·exact ⟨0, out, q / 8, [], n, e, out, q, hr, by rw [if_pos he]; exact ⟨rfl, rfl, by omega, rfl⟩⟩
  ·exact ⟨e, out, 0, [], n, e, out, q, hr, by rw [if_neg he]; exact ⟨rfl, rfl, rfl, rfl⟩⟩
 ·obtain ⟨e, out, used, h⟩ := zAll_ex B most
  exact ⟨e, out, used, [], by rw [rAll_1]; exact ⟨⟨rfl, h⟩, rfl⟩⟩
 ·obtain ⟨e, out, used, nm, h⟩ := gzAll_ex B most
  exact ⟨e, out, used, nm, by rw [rAll_2]; exact ⟨rfl, h⟩⟩
theorem unpack_all (k g cap : Nat) (most : Int) (B : List Nat) (w : World) (hk : k ≤ 2) (hS : Go.Bel.Src w g 0 B) (hg : g < w.heap.size) (hO : OrderAt w) (h4 : 4 ≤ w.heap.size) (hB : AllB B) (hL : B.length ≤ 8388608) {e : Nat} {out : List Nat} {used : Nat} {nm : List Nat} (h : rAll k B (asked most) e out used nm) :
  Calls Tryz.prog 25 #[.int .i64 (k : Nat), .slice (some ⟨g, 0, none⟩) B.length cap, .int .i64 most] w fun r w' => ∃ v', r = .returned (.agg #[.int .i64 (e : Nat), v', .int .i64 (used : Nat), .string (baOf nm)]) ∧ w'.ownsRow w.heap.size 5 1 v' out.length (u8s out) ∧ Step (fun _ => False) w w' := by
 have hc := unpackR k g 0 cap most B w hk hS hg hO h4 hB hL
 rw [fedA_at (by omega)] at hc
 refine hc.mono ?_
 rintro r w' ⟨e', out', used', nm', v', rfl, h', h2, h3⟩
 obtain ⟨rfl, rfl, rfl, rfl⟩ := rAll_one hk B (asked most) _ _ _ _ _ _ _ _ h h'
 exact ⟨v', rfl, h2, h3⟩
end Go.Proofs.YtbpahojchgpdnaaGreatDoor
