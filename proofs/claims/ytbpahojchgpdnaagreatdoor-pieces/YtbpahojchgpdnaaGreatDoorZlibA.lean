/- Proved here: how the wrapping decoder goes through its parts, whatever they are. -/
import Derived.Test.YtbpahojchgpdnaaGreatDoorMade
import Derived.Test.YtbpahojchgpdnaaGreatDoorSummed
import Derived.Deep.RegionWith
set_option maxRecDepth 20000
set_option maxHeartbeats 4000000
namespace Go.Proofs.YtbpahojchgpdnaaGreatDoor
open Go.RowKit Go.Bel Go.Maps
abbrev WAtN (w : World) (D f d : Nat) (parts out : Value) (nm : ByteArray) : Prop := w.heap[D]? = some (.cells #[.pointer (some ⟨f, 0, none⟩), .pointer (some ⟨d, 0, none⟩), parts, out, .string nm] 96 (0, 0))
abbrev FeedAt (w : World) (f : Nat) (s : Value) (p z : Nat) : Prop := w.heap[f]? = some (.cells #[s, .int .i64 (p : Nat), .int .i64 (z : Nat)] 91 (0, 0))
def partsV (P i n : Nat) : Value := .slice (some ⟨P, i, none⟩) n n
def partsN (P i n : Nat) : Value := if n = 0 then .slice (some ⟨P, i, none⟩) 0 0 else .slice (some ⟨P, i + 1, none⟩) n n
structure PartP (D f d P i n : Nat) (s : Value) (z : Nat) (S : Nat → Prop) (Q : Bool → Nat → World → Prop) (L : World → Prop) (w : World) (r : Ending) (w' : World) : Prop where
 step : Step S w w'
 feed : ∃ q : Nat, FeedAt w' f s q z
 dec : ∃ vo nm, WAtN w' D f d (partsV P i (n + 1)) vo nm
 out : (∃ (thr : Bool) (e : Nat), r = .returned (.tuple #[.bool thr, .int .i64 (e : Nat)]) ∧ Q thr e w') ∨ (r = lost ∧ L w')
structure WStepP (D f d P i n : Nat) (s : Value) (z : Nat) (S : Nat → Prop) (Q : Bool → Nat → World → Prop) (L : World → Prop) (w : World) (r : Ending) (w2 : World) : Prop where
 ex : ∃ w' vo nm, Step S w w' ∧ (∃ q : Nat, FeedAt w' f s q z) ∧ WAtN w' D f d (partsV P i (n + 1)) vo nm ∧
  ((∃ (thr : Bool) (e : Nat), r = .returned (.int .i64 (e : Nat)) ∧ Q thr e w' ∧ w2 = if thr then w'.setCell ⟨D, 2, none⟩ (partsN P i n) else w') ∨ (r = lost ∧ L w' ∧ w2 = w'))
theorem wstep_part (D f d P i n id : Nat) (first caps : Array Value) (s vo : Value) (z : Nat) (nm : ByteArray) (S : Nat → Prop) (Q : Bool → Nat → World → Prop) (L : World → Prop) (w : World) (hcf : ∀ w, (callFunc id (first ++ caps)).run Tryz.prog w = .ok (.enter id (first ++ caps)) w)
  (hD : WAtN w D f d (partsV P i (n + 1)) vo nm) (hP : w.cell? ⟨P, i, none⟩ = some (.func (.func id) first caps)) (hn : n ≤ 100)
  (hc : Calls Tryz.prog id (first ++ caps) w fun r w' => PartP D f d P i n s z S Q L w r w') :
  Calls Tryz.prog 124 #[.pointer (some ⟨D, 0, none⟩)] w fun r w2 => WStepP D f d P i n s z S Q L w r w2 := by
 have k2 : w.cell? ⟨D, 2, none⟩ = some (.slice (some ⟨P, i, none⟩) (n + 1) (n + 1)) := blk_cell hD 2 _ rfl
 have HC := hide hc
 clear hc hD
 go_enter Tryz.func124, Tryz.ntmps124
 go_wp2_with fail
 refine (unhide HC).mono ?_
 rintro r w' ⟨h1, h2, ⟨vo', nm', h3⟩, ⟨thr, e, rfl, hq⟩ | ⟨rfl, hl⟩⟩
 ·have k2' : w'.cell? ⟨D, 2, none⟩ = some (.slice (some ⟨P, i, none⟩) (n + 1) (n + 1)) := blk_cell h3 2 _ rfl
  have kf : w'.frozen? ⟨D, 2, none⟩ = false := blk_free h3 2
  have HX := hide (show ∀ w2, w2 = (if thr then w'.setCell ⟨D, 2, none⟩ (partsN P i n) else w') → WStepP D f d P i n s z S Q L w (.returned (.int .i64 (e : Nat))) w2 from fun w2 hw => ⟨⟨w', vo', nm', h1, h2, h3, .inl ⟨thr, e, rfl, hq, hw⟩⟩⟩)
  clear h1 h2 h3 hq HC
  cases thr with
  | false =>
   go_wp2_with fail
   go_ret
   exact unhide HX _ rfl
  | true =>
   by_cases h0 : n = 0
   ·subst h0
    go_wp2_with fail
    go_ret
    exact unhide HX _ rfl
   ·have hni : (1 : Int) ≤ (n : Int) + 1 := by omega
    have HN := hide (show partsN P i n = .slice (some ⟨P, i + 1, none⟩) n n by unfold partsN; rw [if_neg h0])
    have HXX := hide (unhide HX _ rfl)
    rw [if_pos rfl, unhide HN] at HXX
    clear HX HN
    go_wp2_with fail
    go_ret
    exact unhide HXX
 ·have HX := hide (show WStepP D f d P i n s z S Q L w lost w' from ⟨⟨w', vo', nm', h1, h2, h3, .inr ⟨rfl, hl, rfl⟩⟩⟩)
  clear h1 h2 h3 hl HC
  go_wp2_with fail
  exact ⟨rfl, unhide HX⟩
structure WWholeP (D f d P i n p : Nat) (s : Value) (z : Nat) (S : Nat → Prop) (Q : Bool → Nat → World → Prop) (L : World → Prop) (w : World) (r : Ending) (w2 : World) : Prop where
  ex : ∃ w1 w' vo nm, Step (fun _ => False) w w1 ∧ w1.heap.size = w.heap.size + 3 ∧ Step S w1 w' ∧ WAtN w' D f d (partsV P i (n + 1)) vo nm ∧
    ((∃ (thr : Bool) (e : Nat), r = .returned (.int .i64 (e : Nat)) ∧ Q thr e w' ∧ WAtN w2 D f d (if thr then partsN P i n else partsV P i (n + 1)) vo nm ∧ Step (fun k => k = D ∨ k = w.heap.size + 1) w' w2) ∨
     (r = .returned (.int .i64 3) ∧ L w' ∧ WAtN w2 D f d (partsV P i (n + 1)) vo nm ∧ FeedAt w2 f s p z ∧ Step (fun k => k = f ∨ k = w.heap.size + 1) w' w2))
theorem wwhole_part (D f d P i n p id : Nat) (first caps : Array Value) (s vo : Value) (z : Nat) (nm : ByteArray) (S : Nat → Prop) (Q : Bool → Nat → World → Prop) (L : World → Prop) (w : World) (hcf : ∀ w, (callFunc id (first ++ caps)).run Tryz.prog w = .ok (.enter id (first ++ caps)) w)
  (hD : WAtN w D f d (partsV P i (n + 1)) vo nm) (hP : w.cell? ⟨P, i, none⟩ = some (.func (.func id) first caps)) (hn : n ≤ 100) (hF : FeedAt w f s p z) (hS : ∀ k, S k → k < w.heap.size) (hfD : f ≠ D)
  (hc : ∀ w1, Step (fun _ => False) w w1 → w1.heap.size = w.heap.size + 3 → Calls Tryz.prog id (first ++ caps) w1 fun r w' => PartP D f d P i n s z S Q L w1 r w') :
  Calls Tryz.prog 125 #[.pointer (some ⟨f, 0, none⟩), .func (.func 124) #[.pointer (some ⟨D, 0, none⟩)] #[]] w
   fun r w2 => WWholeP D f d P i n p s z S Q L w r w2 := by
 have hDl := lt_of_block hD
 have hFl := lt_of_block hF
 refine (whole_wrap (z := z) f D p s w (fun w1 r w2 => WStepP D f d P i n s z S Q L w1 r w2) hF ?_ ?_).mono ?_
 ·intro w1 hs hsz hr1
  refine (wstep_part D f d P i n id first caps s vo z nm S Q L w1 hcf (hs.at_ hD (fun x => x)) (hs.cell hP (fun x => x)) hn (hc w1 hs hsz)).mono ?_
  intro r w2 h
  obtain ⟨w', vo', nm', h1, h2, h3, ⟨thr, e, rfl, _⟩ | ⟨rfl, _⟩⟩ := h.ex
  ·exact ⟨.inl ⟨e, rfl⟩, h⟩
  ·exact ⟨.inr rfl, h⟩
 ·intro w1 r w2 hs hsz h
  obtain ⟨w', vo', nm', h1, ⟨q, h2⟩, h3, h4⟩ := h.ex
  have hst : Step (fun k => S k ∨ k = D) w1 w2 := by
   rcases h4 with ⟨thr, e, _, _, rfl⟩ | ⟨_, _, rfl⟩
   ·cases thr with
    | true => exact (h1.mono (fun k x => .inl x)).setCell (p := ⟨D, 2, none⟩) (.inr rfl) _
    | false => exact h1.mono (fun k x => .inl x)
   ·exact h1.mono (fun k x => .inl x)
  have hnot : ∀ k, w.heap.size ≤ k → ¬ (S k ∨ k = D) := fun k hk x => by
   rcases x with x | x
   ·have := hS k x; omega
   ·omega
  have hf2 : FeedAt w2 f s q z := by
   rcases h4 with ⟨thr, e, _, _, rfl⟩ | ⟨_, _, rfl⟩
   ·cases thr with
    | true => exact ((Step.refl (· = D) w').setCell (p := ⟨D, 2, none⟩) rfl _).at_ h2 (fun x => hfD x)
    | false => exact h2
   ·exact h2
  exact ⟨hst.block _ (by omega) (hnot _ (by omega)), hst.block _ (by omega) (hnot _ (by omega)), hst.block _ (by omega) (hnot _ (by omega)), q, hf2⟩
 ·rintro r w2 ⟨w1, e1, w3, hs, hsz, h, hend⟩
  obtain ⟨w', vo', nm', h1, ⟨q, h2⟩, h3, h4⟩ := h.ex
  have hDl1 : D < w.heap.size + 1 := by omega
  rcases hend with ⟨y, hy, rfl, rfl⟩ | ⟨hy, rfl, hs3, hf3⟩
  ·rcases h4 with ⟨thr, e, he, hq, rfl⟩ | ⟨he, _⟩
   ·rw [he] at hy
    have hye : e = y := by
     simp only [Ending.returned.injEq, Value.int.injEq, true_and] at hy
     omega
    subst hye
    refine ⟨⟨w1, w', vo', nm', hs, hsz, h1, h3, .inl ⟨thr, e, rfl, hq, ?_, ?_⟩⟩⟩
    ·have hstep : Step (· = w.heap.size + 1) (if thr then w'.setCell ⟨D, 2, none⟩ (partsN P i n) else w') ((if thr then w'.setCell ⟨D, 2, none⟩ (partsN P i n) else w').setCell ⟨w.heap.size + 1, 0, none⟩ (.int .i64 (e : Nat))) := (Step.refl (· = w.heap.size + 1) _).setCell (p := ⟨w.heap.size + 1, 0, none⟩) rfl _
     cases thr with
     | true =>
      have h9 := blk_set h3 2 (partsN P i n)
      exact hstep.at_ (by simpa using h9) (by omega)
     | false => exact hstep.at_ h3 (by omega)
    ·cases thr with
     | true => exact ((Step.refl _ w').setCell (p := ⟨D, 2, none⟩) (.inl rfl) _).setCell (p := ⟨w.heap.size + 1, 0, none⟩) (.inr rfl) _
     | false => exact (Step.refl _ w').setCell (p := ⟨w.heap.size + 1, 0, none⟩) (.inr rfl) _
   ·rw [he] at hy; cases hy
  ·rcases h4 with ⟨thr, e, he, _⟩ | ⟨_, hl, rfl⟩
   ·rw [he] at hy; cases hy
   ·exact ⟨⟨w1, w3, vo', nm', hs, hsz, h1, h3, .inr ⟨rfl, hl, hs3.at_ h3 (fun x => by rcases x with x | x <;> omega), hf3, hs3⟩⟩⟩
theorem wrun_loop (D f : Nat) (Inv : Nat → World → Prop) (Fin : Nat → World → Prop) (k0 : Nat) (w : World) (h0 : Inv k0 w)
  (hstep : ∀ k wr, Inv k wr → ∃ a n c, wr.cell? ⟨D, 2, none⟩ = some (.slice a n c) ∧ wr.cell? ⟨D, 0, none⟩ = some (.pointer (some ⟨f, 0, none⟩)) ∧ (n = 0 → Fin 0 wr) ∧ (n ≠ 0 → Calls Tryz.prog 125 #[.pointer (some ⟨f, 0, none⟩), .func (.func 124) #[.pointer (some ⟨D, 0, none⟩)] #[]] wr
   fun r w' => ∃ e : Nat, r = .returned (.int .i64 (e : Nat)) ∧ ((e = 0 ∧ ∃ k', k' < k ∧ Inv k' w') ∨ (e ≠ 0 ∧ Fin e w')))) :
  Calls Tryz.prog 90 #[.pointer (some ⟨D, 0, none⟩)] w fun r w' => ∃ e : Nat, r = .returned (.int .i64 (e : Nat)) ∧ Fin e w' := by
 have hmf : ∀ (fn : Fn) (first cap : Array Value) (w : World), (Instr.makeFunc fn first cap).run Tryz.prog w = .ok (.func fn first cap) w := fun _ _ _ _ => rfl
 have HS := hide hstep
 have H0 := hide h0
 clear hstep h0
 go_enter Tryz.func90, Tryz.ntmps90
 go_wp2_with fail
 go_loopg [4] k0 (fun k u wr => Inv k wr)
 case atStart => exact unhide H0
 case round =>
  obtain ⟨a, n, c, k2, kf, hz, hw⟩ := unhide HS gk wr hrel
  by_cases hn : n = 0
  ·have HF := hide (hz hn)
   subst hn
   clear hz hw hrel
   go_wp2_with fail
   go_ret
   exact ⟨0, rfl, unhide HF⟩
  ·have hni : (0 : Int) < (n : Int) := by omega
   have HW := hide (hw hn)
   clear hz hw hrel
   go_wp2_with fail
   refine (unhide HW).mono ?_
   rintro r w1 ⟨e, rfl, ⟨he, k', hk', hi⟩ | ⟨he, hf⟩⟩
   ·have heb : ((e : Int) != 0) = false := by rw [bne_eq_false_iff_eq]; omega
    have HI := hide hi
    clear hi HW he
    go_wp2_with fail
    go_roundg k'
    case measure => exact hk'
    case rel => exact unhide HI
   ·have heb : ((e : Int) != 0) = true := by rw [bne_iff_ne]; omega
    have HF := hide hf
    clear hf HW he
    go_wp2_with fail
    go_ret
    exact ⟨e, rfl, unhide HF⟩
end Go.Proofs.YtbpahojchgpdnaaGreatDoor
namespace Go.Proofs.YtbpahojchgpdnaaGreatDoor
open Go.RowKit Go.Bel Go.Maps
theorem holds_any (r : Bool) (e : Nat) (w : World) : Calls Tryz.prog 120 #[.bool r, .int .i64 (e : Nat)] w fun x w' => x = .returned (.tuple #[.bool true, .int .i64 ((if r then 0 else e) : Nat)]) ∧ w' = w := by
 cases r with
 | true =>
  go_enter Tryz.func120, Tryz.ntmps120
  go_wp2_with fail
  go_ret2
  exact ⟨rfl, rfl⟩
 | false =>
  go_enter Tryz.func120, Tryz.ntmps120
  go_wp2_with fail
  go_ret2
  exact ⟨rfl, rfl⟩
abbrev ZAt (w : World) (Z D first sum : Nat) : Prop := w.heap[Z]? = some (.cells #[.pointer (some ⟨D, 0, none⟩), .int .i64 (first : Nat), .int .u32 (sum : Nat)] 132 (0, 0))
def ReadsTo (n p : Nat) (B : List Nat) (f : Nat) (s : Value) (z : Nat) (w : World) (Q : Ending → World → Prop) (r : Ending) (w' : World) : Prop :=
 (p + n ≤ 8 * B.length ∧ FeedAt w' f s (p + n) z ∧ Q r w') ∨ (8 * B.length < p + n ∧ r = lost ∧ FeedAt w' f s (8 * B.length) z ∧ Step (· = f) w w')
theorem zFirst_any (Z D f d g off cap z p first sum : Nat) (B : List Nat) (parts vo : Value) (nm : ByteArray) (w : World) (hZ : ZAt w Z D first sum) (hD : WAtN w D f d parts vo nm) (hF : FeedAt w f (.slice (fedA g off B.length) B.length cap) p z) (hS : Go.Bel.Src w g off B) (hgf : g ≠ f) (hZf : Z ≠ f) (hp : p ≤ 8 * B.length) (e : Nat) (he : e = if zOk1 (numAt B p 8) then 0 else 4) :
  Calls Tryz.prog 75 #[.pointer (some ⟨Z, 0, none⟩)] w (ReadsTo 8 p B f (.slice (fedA g off B.length) B.length cap) z w fun r w' => r = .returned (.tuple #[.bool true, .int .i64 (e : Nat)]) ∧ ZAt w' Z D (numAt B p 8) sum ∧ Step (fun k => k = f ∨ k = Z) w w') := by
 have c0 : w.cell? ⟨Z, 0, none⟩ = some (.pointer (some ⟨D, 0, none⟩)) := blk_cell hZ 0 _ rfl
 have d0 : w.cell? ⟨D, 0, none⟩ = some (.pointer (some ⟨f, 0, none⟩)) := blk_cell hD 0 _ rfl
 by_cases hlt : p + 8 ≤ 8 * B.length
 ·have hx := numAt_lt B p 8
  have HN := hide (feedNum_ok f g off cap z p 8 B w hF hS hgf (by omega) hlt)
  have HZ := hide hZ
  have HF := hide hF
  have HE := hide he
  clear hZ hD hF hS he
  generalize numAt B p 8 = c at *
  have hc : c < 256 := hx
  go_enter Tryz.func75, Tryz.ntmps75
  go_wp2_with fail
  refine (unhide HN).mono ?_
  rintro r w1 ⟨rfl, hf1⟩
  have hz1 := hf1.step.at_ (unhide HZ) hZf
  have hz2 := blk_set hz1 1 (.int .i64 (c : Nat))
  have z1 : w1.cell? ⟨Z, 1, none⟩ = some (.int .i64 (first : Nat)) := blk_cell hz1 1 _ rfl
  have zf : w1.frozen? ⟨Z, 1, none⟩ = false := blk_free hz1 1
  have hs2 : Step (fun k => k = f ∨ k = Z) w (w1.setCell ⟨Z, 1, none⟩ (.int .i64 (c : Nat))) := (hf1.step.mono (fun k x => .inl x)).setCell (p := ⟨Z, 1, none⟩) (.inr rfl) _
  have hf2 : FeedAt (w1.setCell ⟨Z, 1, none⟩ (.int .i64 (c : Nat))) f (.slice (fedA g off B.length) B.length cap) (p + 8) z := ((Step.refl (· = Z) w1).setCell (p := ⟨Z, 1, none⟩) rfl _).at_ (hf1.feed _ _ _ _ (unhide HF)) (fun x => hZf x.symm)
  have HFIN := hide (And.intro hz2 (And.intro hs2 hf2))
  clear hz1 hz2 hs2 hf2 hf1 HN HZ HF
  have HG := hide (show ∀ r : Ending, r = .returned (.tuple #[.bool true, .int .i64 (e : Nat)]) → ReadsTo 8 p B f (.slice (fedA g off B.length) B.length cap) z w (fun r w' => r = .returned (.tuple #[.bool true, .int .i64 (e : Nat)]) ∧ ZAt w' Z D c sum ∧ Step (fun k => k = f ∨ k = Z) w w') r (w1.setCell ⟨Z, 1, none⟩ (.int .i64 (c : Nat))) from
   fun r hr => .inl ⟨hlt, (unhide HFIN).2.2, hr, by simpa using (unhide HFIN).1, (unhide HFIN).2.1⟩)
  clear HFIN hlt
  by_cases h16 : c % 16 = 8
  ·have i16 : (c : Int) % 16 = 8 := by omega
   by_cases h7 : c / 16 ≤ 7
   ·have i7 : (c : Int) / 16 ≤ 7 := by omega
    have HZ := hide (show zOk1 c from ⟨h16, h7⟩)
    clear h16 h7
    go_wp2_with fail
    refine (holds_any true 4 _).mono ?_
    rintro r w2 ⟨rfl, rfl⟩
    go_wp2_with fail
    go_ret2
    exact unhide HG _ (by rw [unhide HE, if_pos (unhide HZ)]; rfl)
   ·have i7 : decide ((c : Int) / 16 ≤ 7) = false := decide_eq_false (by omega)
    have HZ := hide (show ¬ zOk1 c from fun h => h7 h.2)
    clear h16 h7
    go_wp2_with fail
    refine (holds_any false 4 _).mono ?_
    rintro r w2 ⟨rfl, rfl⟩
    go_wp2_with fail
    go_ret2
    exact unhide HG _ (by rw [unhide HE, if_neg (unhide HZ)]; rfl)
  ·have i16 : ¬ ((c : Int) % 16 = 8) := by omega
   have HZ := hide (show ¬ zOk1 c from fun h => h16 h.1)
   clear h16
   go_wp2_with fail
   refine (holds_any false 4 _).mono ?_
   rintro r w2 ⟨rfl, rfl⟩
   go_wp2_with fail
   go_ret2
   exact unhide HG _ (by rw [unhide HE, if_neg (unhide HZ)]; rfl)
 ·have HN := hide (feedNum_miss f g off cap z p 8 B w hF hS hgf (by omega) hp (by omega))
  have HF := hide hF
  clear hZ hD hF hS
  go_enter Tryz.func75, Tryz.ntmps75
  go_wp2_with fail
  refine (unhide HN).mono ?_
  rintro r w1 ⟨rfl, hf1⟩
  have HX := hide (show FeedAt w1 f (.slice (fedA g off B.length) B.length cap) (8 * B.length) z ∧ Step (· = f) w w1 from ⟨hf1.feed _ _ _ _ (unhide HF), hf1.step⟩)
  clear hf1 HN HF
  go_wp2_with fail
  exact ⟨rfl, .inr ⟨by omega, rfl, (unhide HX).1, (unhide HX).2⟩⟩
theorem and_i64 (a b : Nat) (ha : a < 4611686018427387904) (hb : b < 4611686018427387904) : bits .and .i64 (a : Int) (b : Int) = ((a &&& b : Nat) : Int) := by
 have hx : a &&& b < 2 ^ 62 := Nat.and_lt_two_pow _ (by omega)
 show IntKind.i64.wrap ((BitVec.ofInt 64 (a : Int) &&& BitVec.ofInt 64 (b : Int)).toNat : Int) = _
 rw [BitVec.toNat_and, ofInt_nat 64 a (by omega), ofInt_nat 64 b (by omega), IntKind.wrap_i64]
 omega
theorem and_32 : ∀ a, a < 256 → a &&& 32 = a / 32 % 2 * 32 := by decide +kernel
theorem zSecond_any (Z D f d g off cap z p first sum : Nat) (B : List Nat) (parts vo : Value) (nm : ByteArray) (w : World) (hZ : ZAt w Z D first sum) (hD : WAtN w D f d parts vo nm) (hF : FeedAt w f (.slice (fedA g off B.length) B.length cap) p z) (hS : Go.Bel.Src w g off B) (hgf : g ≠ f) (hZf : Z ≠ f) (hp : p ≤ 8 * B.length) (hfi : first < 256) (e : Nat) (he : e = if zOk2 first (numAt B p 8) then 0 else 4) :
  Calls Tryz.prog 76 #[.pointer (some ⟨Z, 0, none⟩)] w (ReadsTo 8 p B f (.slice (fedA g off B.length) B.length cap) z w fun r w' => r = .returned (.tuple #[.bool true, .int .i64 (e : Nat)]) ∧ ZAt w' Z D first sum ∧ Step (fun k => k = f ∨ k = Z) w w') := by
 have c0 : w.cell? ⟨Z, 0, none⟩ = some (.pointer (some ⟨D, 0, none⟩)) := blk_cell hZ 0 _ rfl
 have d0 : w.cell? ⟨D, 0, none⟩ = some (.pointer (some ⟨f, 0, none⟩)) := blk_cell hD 0 _ rfl
 by_cases hlt : p + 8 ≤ 8 * B.length
 ·have hx := numAt_lt B p 8
  have HN := hide (feedNum_ok f g off cap z p 8 B w hF hS hgf (by omega) hlt)
  have HZ := hide hZ
  have HF := hide hF
  have HE := hide he
  clear hZ hD hF hS he
  generalize numAt B p 8 = c at *
  have hc : c < 256 := hx
  have ha := and_i64 c 32 (by omega) (by omega)
  rw [and_32 c hc] at ha
  have hal : bits .and .i64 (c : Int) 32 = ((c / 32 % 2 * 32 : Nat) : Int) := ha
  go_enter Tryz.func76, Tryz.ntmps76
  go_wp2_with fail
  refine (unhide HN).mono ?_
  rintro r w1 ⟨rfl, hf1⟩
  have hz1 := hf1.step.at_ (unhide HZ) hZf
  have z1 : w1.cell? ⟨Z, 1, none⟩ = some (.int .i64 (first : Nat)) := blk_cell hz1 1 _ rfl
  have HG := hide (show ∀ r : Ending, r = .returned (.tuple #[.bool true, .int .i64 (e : Nat)]) → ReadsTo 8 p B f (.slice (fedA g off B.length) B.length cap) z w (fun r w' => r = .returned (.tuple #[.bool true, .int .i64 (e : Nat)]) ∧ ZAt w' Z D first sum ∧ Step (fun k => k = f ∨ k = Z) w w') r w1 from
   fun r hr => .inl ⟨hlt, hf1.feed _ _ _ _ (unhide HF), hr, hz1, hf1.step.mono (fun k x => .inl x)⟩)
  clear hz1 hf1 HN HZ HF hlt ha
  by_cases h32 : c / 32 % 2 = 0
  ·have i32 : ((c / 32 % 2 * 32 : Nat) : Int) = 0 := by rw [h32]; rfl
   rw [i32] at hal
   by_cases h31 : (256 * first + c) % 31 = 0
   ·have i31 : (256 * (first : Int) + (c : Int)) % 31 = 0 := by omega
    have HZ := hide (show zOk2 first c from ⟨h32, h31⟩)
    clear h32 h31 i32
    go_wp2_with fail
    refine (holds_any true 4 _).mono ?_
    rintro r w2 ⟨rfl, rfl⟩
    go_wp2_with fail
    go_ret2
    exact unhide HG _ (by rw [unhide HE, if_pos (unhide HZ)]; rfl)
   ·have i31 : ¬ ((256 * (first : Int) + (c : Int)) % 31 = 0) := by omega
    have j31 : ((256 * (first : Int) + (c : Int)) % 31 == 0) = false := beq_eq_false_iff_ne.2 i31
    have HZ := hide (show ¬ zOk2 first c from fun h => h31 h.2)
    clear h32 h31 i32 i31
    go_wp2_with fail
    refine (holds_any false 4 _).mono ?_
    rintro r w2 ⟨rfl, rfl⟩
    go_wp2_with fail
    go_ret2
    exact unhide HG _ (by rw [unhide HE, if_neg (unhide HZ)]; rfl)
  ·have i32 : ((c / 32 % 2 * 32 : Nat) : Int) = 32 := by rw [show c / 32 % 2 = 1 by omega]; rfl
   rw [i32] at hal
   have HZ := hide (show ¬ zOk2 first c from fun h => h32 h.1)
   clear h32 i32
   go_wp2_with fail
   refine (holds_any false 4 _).mono ?_
   rintro r w2 ⟨rfl, rfl⟩
   go_wp2_with fail
   go_ret2
   exact unhide HG _ (by rw [unhide HE, if_neg (unhide HZ)]; rfl)
 ·have HN := hide (feedNum_miss f g off cap z p 8 B w hF hS hgf (by omega) hp (by omega))
  have HF := hide hF
  clear hZ hD hF hS
  go_enter Tryz.func76, Tryz.ntmps76
  go_wp2_with fail
  refine (unhide HN).mono ?_
  rintro r w1 ⟨rfl, hf1⟩
  have HX := hide (show FeedAt w1 f (.slice (fedA g off B.length) B.length cap) (8 * B.length) z ∧ Step (· = f) w w1 from ⟨hf1.feed _ _ _ _ (unhide HF), hf1.step⟩)
  clear hf1 HN HF
  go_wp2_with fail
  exact ⟨rfl, .inr ⟨by omega, rfl, (unhide HX).1, (unhide HX).2⟩⟩
end Go.Proofs.YtbpahojchgpdnaaGreatDoor
namespace Go.Proofs.YtbpahojchgpdnaaGreatDoor
open Go.RowKit Go.Bel Go.Maps
theorem wrapBareN_any (D d f base g off cap z n e : Nat) (parts : Value) (nm : ByteArray) (B : List Nat) (s : GS) (out : List Nat) (q : Nat) (v : Value) (w : World) (hD : WAtN w D f d parts (.slice none 0 0) nm) (hDo : DOff d f v D) (hDb : D < base) (hgD : g ≠ D) (hH : HoldsG w d f base g off cap z B s v) (hr : GRun B n s e out q) :
  Calls Tryz.prog 50 #[.pointer (some ⟨D, 0, none⟩)] w fun r w' => r = .returned (.tuple #[.bool (e == 0), .int .i64 (e : Nat)]) ∧ ∃ vo, WAtN w' D f d parts vo nm ∧ RunP d f base g off cap z e B out q v (· = D) w w' ∧ Taken w' w.heap.size vo (out.drop s.taken) := by
 have k1 := (show w.cell? ⟨D, 1, none⟩ = some (.pointer (some ⟨d, 0, none⟩)) from blk_cell hD 1 _ rfl)
 have hrun := takeRun_any d f base g off cap z n e B s out q v w hH hr
 have hDl := lt_of_block hD
 have HR := hide hrun
 have HD := hide hD
 clear hrun hr hH hD
 go_enter Tryz.func50, Tryz.ntmps50
 go_wp2_with fail
 refine (unhide HR).mono ?_
 rintro r w1 ⟨vo, rfl, hex, htk⟩
 obtain ⟨ao, co, hvo⟩ := htk.slice
 have hD1 : WAtN w1 D f d parts (.slice none 0 0) nm := by
  obtain ⟨st, q', h1, h2, h3, h5, h6⟩ := hex.ex
  exact h5.at_ (unhide HD) (fun x => x.elim id hDo.not)
 have HFIN := hide (show ∀ k, WAtN ((w1.setCell ⟨D, 3, none⟩ vo).drewN k) D f d parts vo nm ∧ RunP d f base g off cap z e B out q v (· = D) w ((w1.setCell ⟨D, 3, none⟩ vo).drewN k) ∧ Taken ((w1.setCell ⟨D, 3, none⟩ vo).drewN k) w.heap.size vo (out.drop s.taken) from fun k => ⟨by
  have h9 := blk_set hD1 3 vo
  simpa [World.drewN] using h9, (hex.widen (fun _ x => x.elim)).set hDo hDb hgD 3 k vo, htk.step (((Step.refl (· = D) w1).setCell (p := ⟨D, 3, none⟩) rfl vo).drewN k) (fun j hj x => by omega)⟩)
 rw [hvo]
 rw [hvo] at HFIN
 generalize (out.drop s.taken).length = no at *
 have k3 := (show w1.cell? ⟨D, 3, none⟩ = some (.slice none 0 0) from blk_cell hD1 3 _ rfl)
 have kf3 := (show w1.frozen? ⟨D, 3, none⟩ = false from blk_free hD1 3)
 clear hex hD1 htk hvo
 have heb : ((e : Int) == 0) = (e == 0) := by
  by_cases h : e = 0
  ·subst h; rfl
  ·rw [beq_eq_false_iff_ne.2 (show (e : Int) ≠ 0 by omega), beq_eq_false_iff_ne.2 h]
 go_wp2_with fail
 go_ret2
 have h := unhide HFIN 0
 rw [World.drewN_zero] at h
 exact ⟨rfl, _, h⟩
theorem Taken.bytesV {w : World} {base : Nat} {v : Value} {ys : List Nat} (h : Taken w base v ys) : BytesV w v ys := by
 have h' := h
 obtain ⟨_, ⟨hv, hn⟩ | ⟨g, cap, _, hv, _⟩⟩ := h
 ·exact .inl ⟨none, 0, hv, List.eq_nil_of_length_eq_zero hn⟩
 ·refine .inr ⟨g, 0, cap, hv, fun i hi => ?_⟩
  have h9 : w.ownsRow base 5 1 v ys.length (u8s ys) := h'
  rw [hv] at h9
  rw [Nat.zero_add, h9.cellAt i (by omega), u8s_get _ _ hi]
structure BareP (D d f X : Nat) (s : Value) (z e : Nat) (B out : List Nat) (q : Nat) (parts vo : Value) (nm : ByteArray) (w w' : World) : Prop where
 dec : WAtN w' D f d parts vo nm
 feed : ∃ q' : Nat, FeedAt w' f s q' z ∧ (e = 0 → q' = q ∧ q ≤ 8 * B.length)
 row : Taken w' w.heap.size vo out
 step : Step (fun k => k = D ∨ k = d ∨ k = f ∨ k = X) w w'
theorem zBare_any (Z D d f base g off cap z n e first sum : Nat) (parts : Value) (nm : ByteArray) (B : List Nat) (s : GS) (out : List Nat) (q : Nat) (w : World) (hZ : ZAt w Z D first sum) (hD : WAtN w D f d parts (.slice none 0 0) nm) (hDd : D ≠ d) (hDf : D ≠ f) (hDb : D < base) (hgD : g ≠ D) (hH : HoldsG w d f base g off cap z B s (.slice none 0 0)) (hr : GRun B n s e out q) (ht : s.taken = 0) (hob : AllB out) (hol : out.length ≤ 1048576) (hs : sum < 4294967296) (hZn : Z ≠ D ∧ Z ≠ d ∧ Z ≠ f) :
  Calls Tryz.prog 77 #[.pointer (some ⟨Z, 0, none⟩)] w fun r w' => r = .returned (.tuple #[.bool (e == 0), .int .i64 (e : Nat)]) ∧ ∃ vo, BareP D d f Z (.slice (fedA g off B.length) B.length cap) z e B out q parts vo nm w w' ∧ ZAt w' Z D first (adWith sum out) := by
 have c0 : w.cell? ⟨Z, 0, none⟩ = some (.pointer (some ⟨D, 0, none⟩)) := blk_cell hZ 0 _ rfl
 have hZl := lt_of_block hZ
 have HB := hide (wrapBareN_any D d f base g off cap z n e parts nm B s out q (.slice none 0 0) w hD ⟨hDd, hDf, by simp [Value.ownBlock]⟩ hDb hgD hH hr)
 have HZ := hide hZ
 clear hD hH hr hZ
 go_enter Tryz.func77, Tryz.ntmps77
 go_wp2_with fail
 refine (unhide HB).mono ?_
 rintro r w1 ⟨rfl, vo, hD1, hrun, htk⟩
 rw [ht, List.drop_zero] at htk
 obtain ⟨st, q', h1, h2, h3, h5, h6⟩ := hrun.ex
 have hs1 : Step (fun k => k = D ∨ k = d ∨ k = f ∨ k = Z) w w1 := h5.mono (fun k x => by
  rcases x with x | x | x | x
  ·exact .inl x
  ·exact .inr (.inl x)
  ·exact .inr (.inr (.inl x))
  ·cases x)
 have hz1 : ZAt w1 Z D first sum := h5.at_ (unhide HZ) (fun x => by
  rcases x with x | x | x | x
  ·exact hZn.1 x
  ·exact hZn.2.1 x
  ·exact hZn.2.2 x
  ·cases x)
 have a0 : w1.cell? ⟨Z, 0, none⟩ = some (.pointer (some ⟨D, 0, none⟩)) := blk_cell hz1 0 _ rfl
 have a2 : w1.cell? ⟨Z, 2, none⟩ = some (.int .u32 (sum : Nat)) := blk_cell hz1 2 _ rfl
 have af : w1.frozen? ⟨Z, 2, none⟩ = false := blk_free hz1 2
 obtain ⟨ao, co, hvo⟩ := htk.slice
 have a3 : w1.cell? ⟨D, 3, none⟩ = some vo := blk_cell hD1 3 _ rfl
 have HSW := hide (sumWith_any sum vo out w1.drew hs (htk.step ((Step.refl (fun _ => False) w1).drew) (fun _ _ x => x)).bytesV hob (by omega))
 have hlt := adWith_lt sum hs out
 have HFIN := hide (show ∀ k, BareP D d f Z (.slice (fedA g off B.length) B.length cap) z e B out q parts vo nm w ((w1.setCell ⟨Z, 2, none⟩ (.int .u32 (adWith sum out : Nat))).drewN k) ∧ ZAt ((w1.setCell ⟨Z, 2, none⟩ (.int .u32 (adWith sum out : Nat))).drewN k) Z D first (adWith sum out) from fun k => by
  have hs2 : Step (· = Z) w1 ((w1.setCell ⟨Z, 2, none⟩ (.int .u32 (adWith sum out : Nat))).drewN k) := ((Step.refl (· = Z) w1).setCell (p := ⟨Z, 2, none⟩) rfl _).drewN k
  refine ⟨⟨hs2.at_ hD1 (fun x => hZn.1 x.symm), ⟨q', hs2.at_ h3.feed (fun x => hZn.2.2 x.symm), h2⟩, htk.step hs2 (fun k hk x => by omega), hs1.trans (hs2.mono (fun k x => .inr (.inr (.inr x))))⟩, ?_⟩
  have h9 := blk_set hz1 2 (.int .u32 (adWith sum out : Nat))
  simpa [World.drewN] using h9)
 rw [hvo] at a3 HSW HFIN
 generalize out.length = no at *
 clear hz1 hs1 h1 h2 h3 h5 h6 hrun htk hD1 HB HZ hvo
 go_wp2_with fail
 go_region_with
  (first | (go_at_call 92; refine (unhide HSW).mono ?_; rintro e w8 ⟨rfl, rfl⟩))
 all_goals
  go_wp2_with fail
  go_ret2
  exact ⟨rfl, _, unhide HFIN 1⟩
end Go.Proofs.YtbpahojchgpdnaaGreatDoor
namespace Go.Proofs.YtbpahojchgpdnaaGreatDoor
open Go.RowKit Go.Bel Go.Maps
theorem zSum_any (Z D f d g off cap z p first sum : Nat) (B : List Nat) (parts vo : Value) (nm : ByteArray) (w : World) (hZ : ZAt w Z D first sum) (hD : WAtN w D f d parts vo nm) (hF : FeedAt w f (.slice (fedA g off B.length) B.length cap) p z) (hS : Go.Bel.Src w g off B) (hgf : g ≠ f) (hZf : Z ≠ f) (hDf : D ≠ f) (hp : p ≤ 8 * B.length) (e : Nat) (he : e = if bigAt B p 4 = sum then 0 else 12) :
  Calls Tryz.prog 78 #[.pointer (some ⟨Z, 0, none⟩)] w (ReadsTo 32 p B f (.slice (fedA g off B.length) B.length cap) z w fun r w' => r = .returned (.tuple #[.bool true, .int .i64 (e : Nat)]) ∧ Step (· = f) w w') := by
 have HZ := hide hZ
 have HD := hide hD
 have HF := hide hF
 have HS := hide hS
 have HE := hide he
 have hmuch := hS.much
 clear hZ hD hF hS he
 go_enter Tryz.func78, Tryz.ntmps78
 go_wp2_with fail
 go_loopg [4, 5] 4 (fun k u4 u5 wr => ∃ i : Nat, u5 = .int .i64 (i : Nat) ∧ k + i = 4 ∧ u4 = .int .u32 (bigAt B p i : Nat) ∧ p + 8 * i ≤ 8 * B.length ∧ FeedAt wr f (.slice (fedA g off B.length) B.length cap) (p + 8 * i) z ∧ Step (· = f) w wr)
 case atStart => exact ⟨0, rfl, by omega, rfl, by omega, unhide HF, Step.refl _ _⟩
 case round =>
  obtain ⟨i, rfl, hk, rfl, hpi, hfe, hst⟩ := hrel
  have hz := hst.at_ (unhide HZ) hZf
  have hd := hst.at_ (unhide HD) hDf
  have c0 : wr.cell? ⟨Z, 0, none⟩ = some (.pointer (some ⟨D, 0, none⟩)) := blk_cell hz 0 _ rfl
  have c2 : wr.cell? ⟨Z, 2, none⟩ = some (.int .u32 (sum : Nat)) := blk_cell hz 2 _ rfl
  have d0 : wr.cell? ⟨D, 0, none⟩ = some (.pointer (some ⟨f, 0, none⟩)) := blk_cell hd 0 _ rfl
  by_cases hi : i = 4
  ·subst hi
   have hb := bigAt_lt B p 4
   have HX := hide (show ∀ r : Ending, r = .returned (.tuple #[.bool true, .int .i64 (e : Nat)]) → ReadsTo 32 p B f (.slice (fedA g off B.length) B.length cap) z w (fun r w' => r = .returned (.tuple #[.bool true, .int .i64 (e : Nat)]) ∧ Step (· = f) w w') r wr from fun r hr => .inl ⟨hpi, hfe, hr, hst⟩)
   clear hfe hst hz hd
   generalize bigAt B p 4 = T at *
   have hT : T < 4294967296 := hb
   by_cases hq : T = sum
   ·have hqb : ((T : Int) == (sum : Int)) = true := by rw [beq_iff_eq]; omega
    have HQ := hide hq
    clear hq
    go_wp2_with fail
    refine (holds_any true 12 _).mono ?_
    rintro r w2 ⟨rfl, rfl⟩
    go_wp2_with fail
    go_ret2
    exact unhide HX _ (by rw [unhide HE, if_pos (unhide HQ)]; rfl)
   ·have hqb : ((T : Int) == (sum : Int)) = false := by rw [beq_eq_false_iff_ne]; omega
    have HQ := hide hq
    clear hq
    go_wp2_with fail
    refine (holds_any false 12 _).mono ?_
    rintro r w2 ⟨rfl, rfl⟩
    go_wp2_with fail
    go_ret2
    exact unhide HX _ (by rw [unhide HE, if_neg (unhide HQ)]; rfl)
  ·have hi4 : (i : Int) < 4 := by omega
   have hsr := (unhide HS).step hst hgf
   by_cases hlt : p + 8 * i + 8 ≤ 8 * B.length
   ·have HN := hide (feedNum_ok f g off cap z (p + 8 * i) 8 B wr hfe hsr hgf (by omega) hlt)
    have hx := numAt_lt B (p + 8 * i) 8
    have HT := hide (show bigAt B p (i + 1) = 256 * bigAt B p i + numAt B (p + 8 * i) 8 from rfl)
    have hb := bigAt_lt B p i
    have hb2 : 256 * bigAt B p i < 4294967296 := by
     have : 256 ^ i ≤ 256 ^ 3 := Nat.pow_le_pow_right (by omega) (by omega)
     omega
    generalize numAt B (p + 8 * i) 8 = x at *
    generalize bigAt B p i = T at *
    have hx8 : x < 256 := hx
    have HFE := hide hfe
    have HST := hide hst
    clear hfe hst hz hd hsr hb hx
    go_wp2_with fail
    refine (unhide HN).mono ?_
    rintro r w1 ⟨rfl, hf1⟩
    have HX := hide (show FeedAt w1 f (.slice (fedA g off B.length) B.length cap) (p + 8 * (i + 1)) z ∧ Step (· = f) w w1 from ⟨by rw [Nat.mul_add, ← Nat.add_assoc]; exact hf1.feed _ _ _ _ (unhide HFE), (unhide HST).trans hf1.step⟩)
    clear HN hf1 HFE HST
    go_wp2_with fail
    go_roundg (gk - 1)
    case measure => omega
    case rel => exact ⟨i + 1, rfl, by omega, by rw [unhide HT]; simp, by omega, unhide HX⟩
   ·have HN := hide (feedNum_miss f g off cap z (p + 8 * i) 8 B wr hfe hsr hgf (by omega) hpi (by omega))
    have HFE := hide hfe
    have HST := hide hst
    clear hfe hst hz hd hsr
    go_wp2_with fail
    refine (unhide HN).mono ?_
    rintro r w1 ⟨rfl, hf1⟩
    have HX := hide (show FeedAt w1 f (.slice (fedA g off B.length) B.length cap) (8 * B.length) z ∧ Step (· = f) w w1 from ⟨hf1.feed _ _ _ _ (unhide HFE), (unhide HST).trans hf1.step⟩)
    clear HN hf1 HFE HST
    go_wp2_with fail
    exact ⟨rfl, .inr ⟨by omega, rfl, (unhide HX).1, (unhide HX).2⟩⟩
end Go.Proofs.YtbpahojchgpdnaaGreatDoor
namespace Go.Proofs.YtbpahojchgpdnaaGreatDoor
open Go.RowKit Go.Bel Go.Maps
def gAt (most p : Nat) : GS := { gInit most with p := p }
def zTail (B : List Nat) (q : Nat) (o : List Nat) (e : Nat) (out : List Nat) (used : Nat) : Prop :=
 out = o ∧ if q + 32 ≤ 8 * B.length then (if bigAt B q 4 = adWith 1 o then e = 0 ∧ used = q / 8 + 4 else e = 12 ∧ used = 0) else e = 3 ∧ used = 0
def zBody (B : List Nat) (most p e : Nat) (out : List Nat) (used : Nat) : Prop :=
 ∃ n e1 o1 q1, GRun B n (gAt most p) e1 o1 q1 ∧ if e1 = 0 then zTail B q1 o1 e out used else e = e1 ∧ out = o1 ∧ used = 0
def zSec (B : List Nat) (most p c e : Nat) (out : List Nat) (used : Nat) : Prop :=
 if p + 8 ≤ 8 * B.length then (if zOk2 c (numAt B p 8) then zBody B most (p + 8) e out used else e = 4 ∧ out = [] ∧ used = 0) else e = 3 ∧ out = [] ∧ used = 0
def zAll (B : List Nat) (most e : Nat) (out : List Nat) (used : Nat) : Prop :=
 if 0 + 8 ≤ 8 * B.length then (if zOk1 (numAt B 0 8) then zSec B most (0 + 8) (numAt B 0 8) e out used else e = 4 ∧ out = [] ∧ used = 0) else e = 3 ∧ out = [] ∧ used = 0
theorem zTail_ex (B : List Nat) (q : Nat) (o : List Nat) : ∃ e out used, zTail B q o e out used := by
 unfold zTail
 by_cases h1 : q + 32 ≤ 8 * B.length
 ·by_cases h2 : bigAt B q 4 = adWith 1 o
  ·exact ⟨0, o, q / 8 + 4, rfl, by rw [if_pos h1, if_pos h2]; exact ⟨rfl, rfl⟩⟩
  ·exact ⟨12, o, 0, rfl, by rw [if_pos h1, if_neg h2]; exact ⟨rfl, rfl⟩⟩
 ·exact ⟨3, o, 0, rfl, by rw [if_neg h1]; exact ⟨rfl, rfl⟩⟩
theorem zBody_ex (B : List Nat) (most p : Nat) (hp : p ≤ 8 * B.length) : ∃ e out used, zBody B most p e out used := by
 obtain ⟨n, e1, o1, q1, hr⟩ := gRun_ex B (gLeft B (gAt most p) + 1) (gAt most p) (by simpa [gAt] using hp) (by omega)
 by_cases h : e1 = 0
 ·obtain ⟨e, out, used, ht⟩ := zTail_ex B q1 o1
  exact ⟨e, out, used, n, e1, o1, q1, hr, by rw [if_pos h]; exact ht⟩
 ·exact ⟨e1, o1, 0, n, e1, o1, q1, hr, by rw [if_neg h]; exact ⟨rfl, rfl, rfl⟩⟩
theorem zAll_ex (B : List Nat) (most : Nat) : ∃ e out used, zAll B most e out used := by
 unfold zAll
 by_cases h1 : 0 + 8 ≤ 8 * B.length
 ·simp only [if_pos h1]
  by_cases h2 : zOk1 (numAt B 0 8)
  ·simp only [if_pos h2, zSec]
   by_cases h3 : 0 + 8 + 8 ≤ 8 * B.length
   ·simp only [if_pos h3]
    by_cases h4 : zOk2 (numAt B 0 8) (numAt B (0 + 8) 8)
    ·simp only [if_pos h4]
     exact zBody_ex B most _ h3
    ·simp only [if_neg h4]
     exact ⟨4, [], 0, rfl, rfl, rfl⟩
   ·simp only [if_neg h3]
    exact ⟨3, [], 0, rfl, rfl, rfl⟩
  ·simp only [if_neg h2]
   exact ⟨4, [], 0, rfl, rfl, rfl⟩
 ·simp only [if_neg h1]
  exact ⟨3, [], 0, rfl, rfl, rfl⟩
theorem gAt_run {B : List Nat} {most p n e : Nat} {out : List Nat} {q : Nat} (h : GRun B n (gAt most p) e out q) : AllB out ∧ q % 8 = 0 ∧ out.length ≤ most := by
 obtain ⟨h1, h2⟩ := h.bytes (by intro y hy; simp [gAt, gInit] at hy) (by simp [gAt, gInit])
 exact ⟨h1, h2, h.most (by simp [gAt, gInit])⟩
theorem holdsG_at {w : World} {f d base g off cap z most p : Nat} {B : List Nat} (hS : Go.Bel.Src w g off B) (hO : OrderAt w) (hm : most ≤ 1048576) (hg : g < f) (hf0 : 4 ≤ f) (hfd : f < d) (hdb : d < base) (hsz : base ≤ w.heap.size) (hp : p ≤ 8 * B.length)
  (hF : w.heap[f]? = some (.cells #[.slice (fedA g off B.length) B.length cap, .int .i64 (p : Nat), .int .i64 (z : Nat)] 91 (0, 0)))
  (hD : w.heap[d]? = some (.cells #[.pointer (some ⟨f, 0, none⟩), .slice none 0 0, .int .i64 0, .int .i64 (most : Nat), .int .i64 0, .bool false, .int .i64 0, .map none, .int .i64 0, .map none, .int .i64 0, .pointer none] 128 (0, 0))) :
  HoldsG w d f base g off cap z B (gAt most p) (.slice none 0 0) := by
 refine ⟨⟨⟨.slice none 0 0, [], 0, most, 0, false, 0, .map none, 0, .map none, 0, .pointer none⟩, rfl, ⟨⟨hD, World.ownsRow_nil _ _ _ _, by omega, by omega, by omega, by omega⟩, hF, hS, ⟨by omega, by omega, by simp [Value.ownBlock]⟩, by omega⟩, ⟨⟨[], rfl, .inl rfl⟩, rfl, Nat.le_refl _⟩, rfl, rfl, rfl, rfl, ⟨_, rfl⟩, ⟨_, rfl⟩, .inl rfl, fun h => by simp [gAt, gInit] at h⟩, hO, ⟨by omega, by omega⟩, by omega, hm, by simp [gAt, gInit], by simp [gAt, gInit], by simpa [gAt] using hp⟩
end Go.Proofs.YtbpahojchgpdnaaGreatDoor
