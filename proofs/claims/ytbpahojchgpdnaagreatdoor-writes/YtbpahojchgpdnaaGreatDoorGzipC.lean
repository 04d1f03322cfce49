/- Proved here: what a letter of a Gzip's name comes to. -/
import Derived.Laws.Cover4
import Derived.Test.YtbpahojchgpdnaaGreatDoorZlibB
import Derived.Test.YtbpahojchgpdnaaGreatDoorGzipB
import Derived.Deep.RegionWith
set_option maxRecDepth 20000
set_option maxHeartbeats 4000000
namespace Go.Proofs.YtbpahojchgpdnaaGreatDoor
open Go.RowKit Go.Bel Go.Maps
theorem Tryz.info21 : (Tryz.prog.info? 21).map (fun i => (i.zero, i.size, i.bytes)) = some (some (.int .i32 0), 1, 4) := by kernel_rfl
def i32s (l : List Nat) : List Value := l.map fun c => .int .i32 (c : Nat)
abbrev LetAt (w : World) (bl : Nat) (lv : Value) (ls : List Nat) : Prop := w.ownsRow bl 21 1 lv ls.length (i32s ls)
theorem let_slice {w : World} {bl : Nat} {lv : Value} {ls : List Nat} (h : LetAt w bl lv ls) : ∃ a c, lv = .slice a ls.length c := by
 obtain ⟨_, ⟨hv, hn⟩ | ⟨g, cap, _, hv, _⟩⟩ := h
 ·exact ⟨none, 0, by rw [hv, hn]⟩
 ·exact ⟨_, _, hv⟩
theorem let_ne {w : World} {bl h t : Nat} {v : Value} {ys : List Nat} {A : Array Value} (own : LetAt w bl v ys) (blk : w.heap[h]? = some (.cells A t (0, 0))) (ht : t ≠ 21) : v.ownBlock ≠ some h := fun x => by
 obtain ⟨_, ⟨hv, _⟩ | ⟨g, cap, cur, hv, _, hh, _⟩⟩ := own
 ·rw [hv] at x; cases x
 ·rw [hv] at x
  cases x
  rw [hh] at blk
  cases blk
  exact ht rfl
theorem let_step {S : Nat → Prop} {w w' : World} {bl : Nat} {v : Value} {ys : List Nat} (h : LetAt w bl v ys) (hs : Step S w w') (hn : ∀ k, v.ownBlock = some k → ¬ S k) : LetAt w' bl v ys :=
 ownsRow_of_block h fun k hk => hs.block k (h.lt k hk).2 (hn k hk)
theorem letter_more (X D f d g off cap z p fl left head check size bl : Nat) (lv : Value) (ls : List Nat) (B : List Nat) (parts vo : Value) (nm : ByteArray) (w : World) (h : GIn w X D f d g off cap z p fl left head lv check size B parts vo nm) (hL : LetAt w bl lv ls) (hc0 : numAt B p 8 ≠ 0) (hn : ls.length ≤ 8388608) (hbl : bl ≤ w.heap.size) :
  Calls Tryz.prog 84 #[.pointer (some ⟨X, 0, none⟩)] w (ReadsTo 8 p B f (.slice (fedA g off B.length) B.length cap) z w fun r w' => r = .returned (.tuple #[.bool false, .int .i64 ((0 : Nat) : Int)]) ∧ ∃ lv', GzAt w' X D fl left (crcWith head [numAt B p 8]) lv' check size ∧ LetAt w' bl lv' (ls ++ [numAt B p 8]) ∧ (∀ k, lv'.ownBlock = some k → lv.ownBlock = some k ∨ w.heap.size ≤ k) ∧ WAtN w' D f d parts vo nm ∧ Step (fun k => k = f ∨ k = X ∨ lv.ownBlock = some k) w w') := by
 have hC := h.byte
 by_cases hlt : p + 8 ≤ 8 * B.length
 ·have HC := hide (hC.mono (fun r w' h => h.ok hlt))
  have HH := hide h
  have hx := numAt_lt B p 8
  clear hC h
  generalize numAt B p 8 = c at *
  have hc : c < 256 := hx
  have hpos : (c : Int) > 0 := by omega
  obtain ⟨la, lc, hlv⟩ := let_slice hL
  obtain ⟨i0, hi, hz0, hz1, hz2⟩ := info_parts Tryz.info21
  have HL := hide hL
  have HLV := hide hlv
  clear hL hlv
  go_enter Tryz.func84, Tryz.ntmps84
  go_wp2_with fail
  refine (unhide HC).mono ?_
  rintro r w1 ⟨h1, rfl, h2, h3⟩
  have hl1 : LetAt w1 bl lv ls := let_step (unhide HL) h3 (fun k hk x => by
   rcases x with x | x
   ·exact let_ne (unhide HL) (unhide HH).feed (by decide) (by rw [hk, x])
   ·exact let_ne (unhide HL) (unhide HH).gz (by decide) (by rw [hk, x]))
  have z4 : w1.cell? ⟨X, 4, none⟩ = some lv := blk_cell h2 4 _ rfl
  have zf : w1.frozen? ⟨X, 4, none⟩ = false := blk_free h2 4
  have hXl := lt_of_block h2
  rw [unhide HLV] at z4
  have HL1 := hide hl1
  have H1 := hide h1
  have H2 := hide h2
  have H3 := hide h3
  clear h1 h2 h3 hl1 HC
  go_wp2_with (at_builtin; refine wpList_append_row _ rfl _ _ 135 rfl bl 21 i0 (.int .i32 0) 1 4 Tryz.underlying135 hi hz0 hz1 hz2 rfl (by decide) _ ls.length (i32s ls) rfl (by rw [← unhide HLV]; exact (unhide HL1).alloc _) ⟨w1.heap.size, 0, none⟩ 1 1 [.int .i32 (c : Nat)] rfl rfl ?c1 ?c2 (by decide) ?c3 ?c4 ?c5 ?_)
  case c1 =>
   intro j u hj
   match j, hj with
   | 0, hj => simp at hj; subst hj; exact cell_of_one (heap_alloc_new w1 (.cells #[.int .i32 (c : Nat)] 21))
  case c2 => intro u hu; simp at hu; subst hu; rfl
  case c3 => unfold maxLen; omega
  case c4 => omega
  case c5 => have := (unhide H3).size; simp; omega
  intro g' cap' w2 hown' hgr hg'
  have hal : Step (fun _ => False) w1 (w1.alloc (.cells #[.int .i32 (c : Nat)] 21)) := (Step.refl _ _).alloc _
  have hs2 : Step (fun k => lv.ownBlock = some k) w1 w2 := (hal.mono (fun _ x => x.elim)).grown hgr (fun k hk => .inl (by rw [unhide HLV]; exact hk))
  have hnX : ¬ lv.ownBlock = some X := let_ne (unhide HL) (unhide HH).gz (by decide)
  have hnD : ¬ lv.ownBlock = some D := let_ne (unhide HL) (unhide HH).dec (by decide)
  have hnf : ¬ lv.ownBlock = some f := let_ne (unhide HL) (unhide HH).feed (by decide)
  have hx2 := hs2.at_ (unhide H2) hnX
  have y4 : w2.cell? ⟨X, 4, none⟩ = some lv := blk_cell hx2 4 _ rfl
  have yf : w2.frozen? ⟨X, 4, none⟩ = false := blk_free hx2 4
  have hgb : lv.ownBlock = some g' ∨ w.heap.size ≤ g' := by
   rcases hg' with x | x
   ·exact .inl (by rw [unhide HLV]; exact x)
   ·refine .inr ?_
    have h5 := (unhide H3).size
    have h6 := hal.size
    omega
  have hgX : (Value.slice (some ⟨g', 0, none⟩) (ls.length + 1) cap').ownBlock ≠ some X := fun x => by
   have x' : g' = X := by simpa [Value.ownBlock] using x
   rcases hgb with y | y
   ·exact hnX (by rw [y, x'])
   ·have := lt_of_block (unhide HH).gz; omega
  have HFIN := hide (show ReadsTo 8 p B f (.slice (fedA g off B.length) B.length cap) z w (fun r w' => r = .returned (.tuple #[.bool false, .int .i64 ((0 : Nat) : Int)]) ∧ ∃ lv', GzAt w' X D fl left (crcWith head [c]) lv' check size ∧ LetAt w' bl lv' (ls ++ [c]) ∧ (∀ k, lv'.ownBlock = some k → lv.ownBlock = some k ∨ w.heap.size ≤ k) ∧ WAtN w' D f d parts vo nm ∧ Step (fun k => k = f ∨ k = X ∨ lv.ownBlock = some k) w w') (.returned (.tuple #[.bool false, .int .i64 ((0 : Nat) : Int)])) (w2.setCell ⟨X, 4, none⟩ (.slice (some ⟨g', 0, none⟩) (ls.length + 1) cap')) from by
   have hs3 : Step (· = X) w2 (w2.setCell ⟨X, 4, none⟩ (.slice (some ⟨g', 0, none⟩) (ls.length + 1) cap')) := (Step.refl (· = X) w2).setCell (p := ⟨X, 4, none⟩) rfl _
   have hst : Step (fun k => k = f ∨ k = X ∨ lv.ownBlock = some k) w (w2.setCell ⟨X, 4, none⟩ (.slice (some ⟨g', 0, none⟩) (ls.length + 1) cap')) := (((unhide H3).mono (fun k x => x.elim .inl (fun y => .inr (.inl y)))).trans (hs2.mono (fun k x => .inr (.inr x)))).trans (hs3.mono (fun k x => .inr (.inl x)))
   refine .inl ⟨hlt, hs3.at_ (hs2.at_ (unhide H1) hnf) (fun x => (unhide HH).Xf x.symm), rfl, .slice (some ⟨g', 0, none⟩) (ls.length + 1) cap', ?_, ?_, fun k hk => ?_, hst.at_ (unhide HH).dec (fun x => by
    rcases x with x | x | x
    ·exact (unhide HH).Df x
    ·exact (unhide HH).DX x
    ·exact hnD x), hst⟩
   ·have h9 := blk_set hx2 4 (.slice (some ⟨g', 0, none⟩) (ls.length + 1) cap')
    simpa using h9
   ·have h8 : w2.ownsRow bl 21 1 (.slice (some ⟨g', 0, none⟩) (ls.length + 1) cap') (ls ++ [c]).length (i32s (ls ++ [c])) := by
     have e1 : i32s (ls ++ [c]) = i32s ls ++ [.int .i32 (c : Nat)] := by simp [i32s]
     rw [e1, List.length_append]
     exact hown'
    exact let_step h8 hs3 (fun k hk x => hgX (by rw [hk, x]))
   ·have x' : g' = k := by simpa [Value.ownBlock] using hk
    rw [← x']
    exact hgb)
  clear hx2 hs2 hown' hgr hg' hal hgb hgX hnX hnD hnf
  rw [unhide HLV] at y4
  go_wp2_with fail
  go_ret2
  exact unhide HFIN
 ·have HC := hide (hC.mono (fun r w' h => h.lost hlt))
  have HG := hide (show ∀ w', FeedAt w' f (.slice (fedA g off B.length) B.length cap) (8 * B.length) z → Step (· = f) w w' → ReadsTo 8 p B f (.slice (fedA g off B.length) B.length cap) z w (fun r w' => r = .returned (.tuple #[.bool false, .int .i64 ((0 : Nat) : Int)]) ∧ ∃ lv', GzAt w' X D fl left (crcWith head [numAt B p 8]) lv' check size ∧ LetAt w' bl lv' (ls ++ [numAt B p 8]) ∧ (∀ k, lv'.ownBlock = some k → lv.ownBlock = some k ∨ w.heap.size ≤ k) ∧ WAtN w' D f d parts vo nm ∧ Step (fun k => k = f ∨ k = X ∨ lv.ownBlock = some k) w w') lost w' from fun w' h1 h2 => .inr ⟨by omega, rfl, h1, h2⟩)
  clear hC hlt h hL
  go_enter Tryz.func84, Tryz.ntmps84
  go_wp2_with fail
  refine (unhide HC).mono ?_
  rintro r w1 ⟨rfl, h1, h2⟩
  have HGG := hide (unhide HG w1 h1 h2)
  clear h1 h2 HG HC
  go_wp2_with fail
  exact ⟨rfl, unhide HGG⟩
theorem enc_latin (c : Nat) (h : c < 256) : Utf8.encode (c : Int) = baOf (latinC c) := by
 have hv : Utf8.valid (c : Int) = true := by simp [Utf8.valid]; omega
 unfold Utf8.encode latinC
 simp only [hv, if_true, Int.toNat_natCast]
 by_cases h1 : c < 128
 ·rw [if_pos h1, if_pos h1]; rfl
 ·rw [if_neg h1, if_neg h1, if_pos (by omega)]; rfl
theorem runes_latin (ls : List Nat) (h : ∀ c ∈ ls, c < 256) : runesBytes (ls.map fun c : Nat => (c : Int)) = baOf (latinB ls) := by
 have key : ∀ (l : List Nat) (r : ByteArray), (∀ c ∈ l, c < 256) → (l.map fun c : Nat => (c : Int)).foldl (fun r n => r ++ Utf8.encode n) r = r ++ baOf (latinB l) := by
  intro l
  induction l with
  | nil => intro r _; apply ByteArray.ext; simp [latinB, baOf]
  | cons c l ih =>
   intro r hl
   have hc := hl c (by simp)
   rw [List.map_cons, List.foldl_cons, ih _ (fun x hx => hl x (by simp [hx])), enc_latin c hc]
   apply ByteArray.ext
   simp [latinB, baOf, ByteArray.append_assoc]
 have h1 := key ls ByteArray.empty h
 unfold runesBytes
 rw [h1]
 apply ByteArray.ext
 simp
theorem letter_end (X D f d g off cap z p fl left head check size bl : Nat) (lv : Value) (ls : List Nat) (B : List Nat) (parts vo : Value) (nm : ByteArray) (w : World) (h : GIn w X D f d g off cap z p fl left head lv check size B parts vo nm) (hL : LetAt w bl lv ls) (hc0 : numAt B p 8 = 0) (hlb : AllB ls) :
  Calls Tryz.prog 84 #[.pointer (some ⟨X, 0, none⟩)] w (GzTo 8 p B f (.slice (fedA g off B.length) B.length cap) z X D d fl left (crcWith head [numAt B p 8]) (.slice none 0 0) check size parts vo (baOf (latinB ls)) true 0 (fun k => k = f ∨ k = X ∨ k = D) w) := by
 have hC := h.byte
 by_cases hlt : p + 8 ≤ 8 * B.length
 ·have HC := hide (hC.mono (fun r w' h => h.ok hlt))
  have HH := hide h
  clear hC h
  have HCC := hide hc0
  rw [hc0] at HC
  clear hc0
  obtain ⟨la, lc, hlv⟩ := let_slice hL
  have HL := hide hL
  have HLV := hide hlv
  clear hL hlv
  go_enter Tryz.func84, Tryz.ntmps84
  go_wp2_with fail
  refine (unhide HC).mono ?_
  rintro r w1 ⟨h1, rfl, h2, h3⟩
  have hl1 : LetAt w1 bl lv ls := let_step (unhide HL) h3 (fun k hk x => by
   rcases x with x | x
   ·exact let_ne (unhide HL) (unhide HH).feed (by decide) (by rw [hk, x])
   ·exact let_ne (unhide HL) (unhide HH).gz (by decide) (by rw [hk, x]))
  have hcv : ∀ n, (convert 135 9 lv).run Tryz.prog (w1.drewN n) = .ok (.string (baOf (latinB ls))) (w1.drewN n) := fun n => by
   have hl1 : LetAt (w1.drewN n) bl lv ls := let_step hl1 ((Step.refl (fun _ => False) w1).drewN n) (fun _ _ x => x)
   revert hl1
   generalize w1.drewN n = w1
   intro hl1
   rw [← runes_latin ls hlb]
   have hl2 := hl1
   obtain ⟨_, ⟨hv, hn⟩ | ⟨k, cap2, cur, hv, _⟩⟩ := hl1
   ·rw [hv, List.eq_nil_of_length_eq_zero hn]
    exact run_convert_runes_nil w1 135 9 21 0 0 Tryz.underlying135 Tryz.underlying21 Tryz.underlying9
   ·subst hv
    have h9 := run_convert_runes (P := Tryz.prog) w1 135 9 21 ⟨k, 0, none⟩ ls.length cap2 (ls.map fun c : Nat => (c : Int)) (by simp) Tryz.underlying135 Tryz.underlying21 Tryz.underlying9 (fun j hj => by
     have hj' : j < ls.length := by simpa using hj
     have h8 : w1.ownsRow bl 21 1 (.slice (some ⟨k, 0, none⟩) ls.length cap2) ls.length (i32s ls) := hl2
     have h7 := h8.cellAt j (by omega)
     rw [show (⟨k, 0, none⟩ : Addr).add j = ⟨k, j, none⟩ from by
      unfold Addr.add
      split
      ·rename_i h; simp_all
      ·simp]
     rw [h7]
     simp [i32s, List.getD, List.getElem?_map, List.getElem?_eq_getElem hj'])
    rw [List.take_of_length_le (by simp)] at h9
    exact h9
  have z4 : w1.cell? ⟨X, 4, none⟩ = some lv := blk_cell h2 4 _ rfl
  have zf : w1.frozen? ⟨X, 4, none⟩ = false := blk_free h2 4
  have z0 : w1.cell? ⟨X, 0, none⟩ = some (.pointer (some ⟨D, 0, none⟩)) := blk_cell h2 0 _ rfl
  have hD1 := h3.at_ (unhide HH).dec (fun x => x.elim (unhide HH).Df (unhide HH).DX)
  have zn : w1.cell? ⟨D, 4, none⟩ = some (.string nm) := blk_cell hD1 4 _ rfl
  have znf : w1.frozen? ⟨D, 4, none⟩ = false := blk_free hD1 4
  rw [unhide HLV] at z4 hcv
  have H1 := hide h1
  have H2 := hide h2
  have H3 := hide h3
  have HD1 := hide hD1
  have n1 : ¬ D = X := (unhide HH).DX
  have n2 : ¬ X = D := fun x => n1 x.symm
  have hXl := lt_of_block h2
  have hDl := lt_of_block hD1
  clear h1 h2 h3 hl1 hD1 HC
  have hcv1 : (convert 135 9 (.slice la ls.length lc)).run Tryz.prog w1.drew = .ok (.string (baOf (latinB ls))) w1.drew := hcv 1
  have hcv0 : (convert 135 9 (.slice la ls.length lc)).run Tryz.prog w1 = .ok (.string (baOf (latinB ls))) w1 := hcv 0
  clear hcv
  go_wp2_with fail
  have HFIN := hide (show ∀ w5 w6, w5 = w1.drew.setCell ⟨D, 4, none⟩ (.string (baOf (latinB ls))) → w6 = w5.setCell ⟨X, 4, none⟩ (.slice none 0 0) → GzTo 8 p B f (.slice (fedA g off B.length) B.length cap) z X D d fl left (crcWith head [numAt B p 8]) (.slice none 0 0) check size parts vo (baOf (latinB ls)) true 0 (fun k => k = f ∨ k = X ∨ k = D) w (.returned (.tuple #[.bool true, .int .i64 ((0 : Nat) : Int)])) w6 from fun w5 w6 e5 e6 => by
   have hdr : Step (fun _ => False) w1 w1.drew := (Step.refl _ _).drew
   have s5 : Step (· = D) w1.drew w5 := by rw [e5]; exact (Step.refl (· = D) _).setCell (p := ⟨D, 4, none⟩) rfl _
   have s6 : Step (· = X) w5 w6 := by rw [e6]; exact (Step.refl (· = X) _).setCell (p := ⟨X, 4, none⟩) rfl _
   have hst : Step (fun k => k = f ∨ k = X ∨ k = D) w w6 := ((((unhide H3).mono (fun k x => x.elim .inl (fun y => .inr (.inl y)))).trans (hdr.mono (fun _ x => x.elim))).trans (s5.mono (fun k x => .inr (.inr x)))).trans (s6.mono (fun k x => .inr (.inl x)))
   have hD5 : WAtN w5 D f d parts vo (baOf (latinB ls)) := by
    have h9 := blk_set (hdr.at_ (unhide HD1) (fun x => x)) 4 (.string (baOf (latinB ls)))
    rw [e5]
    simpa using h9
   have hX5 := s5.at_ (hdr.at_ (unhide H2) (fun x => x)) n2
   refine .inl ⟨hlt, s6.at_ (s5.at_ (hdr.at_ (unhide H1) (fun x => x)) (fun x => (unhide HH).Df x.symm)) (fun x => (unhide HH).Xf x.symm), rfl, ?_, s6.at_ hD5 n1, hst⟩
   have h9 := blk_set hX5 4 (.slice none 0 0)
   rw [e6, unhide HCC]
   simpa using h9)
  clear HL HLV H1 H2 H3 HD1
  go_region
  go_wp2_with fail
  go_ret2
  exact unhide HFIN _ _ rfl rfl
 ·have HC := hide (hC.mono (fun r w' h => h.lost hlt))
  have HG := hide (show ∀ w', FeedAt w' f (.slice (fedA g off B.length) B.length cap) (8 * B.length) z → Step (· = f) w w' → GzTo 8 p B f (.slice (fedA g off B.length) B.length cap) z X D d fl left (crcWith head [numAt B p 8]) (.slice none 0 0) check size parts vo (baOf (latinB ls)) true 0 (fun k => k = f ∨ k = X ∨ k = D) w lost w' from fun w' h1 h2 => .inr ⟨by omega, rfl, h1, h2⟩)
  clear hC hlt h hL
  go_enter Tryz.func84, Tryz.ntmps84
  go_wp2_with fail
  refine (unhide HC).mono ?_
  rintro r w1 ⟨rfl, h1, h2⟩
  have HGG := hide (unhide HG w1 h1 h2)
  clear h1 h2 HG HC
  go_wp2_with fail
  exact ⟨rfl, unhide HGG⟩
end Go.Proofs.YtbpahojchgpdnaaGreatDoor
namespace Go.Proofs.YtbpahojchgpdnaaGreatDoor
open Go.RowKit Go.Bel Go.Maps
structure GQ where
 i : Nat
 p : Nat
 fl : Nat
 left : Nat
 head : Nat
 check : Nat
 size : Nat
 ls : List Nat
 o : List Nat
 nm : List Nat
def GS' (f X D : Nat) (lv : Value) (k : Nat) : Prop := k = f ∨ k = X ∨ k = D ∨ lv.ownBlock = some k
end Go.Proofs.YtbpahojchgpdnaaGreatDoor
namespace Go.Proofs.YtbpahojchgpdnaaGreatDoor
open Go.RowKit Go.Bel Go.Maps
def IsMark (w0 : World) (X m : Nat) (v : Value) : Prop := ∃ a b, v = .func (.func 121) #[] #[.pointer (some ⟨a, 0, none⟩), .pointer (some ⟨b, 0, none⟩)] ∧ (X < a ∧ a < w0.heap.size) ∧ (X < b ∧ b < w0.heap.size) ∧ w0.cell? ⟨a, 0, none⟩ = some (.pointer (some ⟨X, 0, none⟩)) ∧ w0.cell? ⟨b, 0, none⟩ = some (.int .i64 (m : Nat))
def IsWith (w0 : World) (X flag id : Nat) (v : Value) : Prop := ∃ a b c, v = .func (.func 123) #[] #[.pointer (some ⟨a, 0, none⟩), .pointer (some ⟨b, 0, none⟩), .pointer (some ⟨c, 0, none⟩)] ∧ (X < a ∧ a < w0.heap.size) ∧ (X < b ∧ b < w0.heap.size) ∧ (X < c ∧ c < w0.heap.size) ∧ w0.cell? ⟨a, 0, none⟩ = some (.pointer (some ⟨X, 0, none⟩)) ∧ w0.cell? ⟨b, 0, none⟩ = some (.int .i64 (flag : Nat)) ∧ w0.cell? ⟨c, 0, none⟩ = some (.func (.func id) #[.pointer (some ⟨X, 0, none⟩)] #[])
def IsPlain (X id : Nat) (v : Value) : Prop := v = .func (.func id) #[.pointer (some ⟨X, 0, none⟩)] #[]
structure GzParts (w0 : World) (X : Nat) (F : Nat → Value) : Prop where
 m0 : IsMark w0 X 31 (F 0)
 m1 : IsMark w0 X 139 (F 1)
 m2 : IsMark w0 X 8 (F 2)
 p3 : IsPlain X 80 (F 3)
 p4 : IsPlain X 81 (F 4)
 w5 : IsWith w0 X 4 83 (F 5)
 w6 : IsWith w0 X 4 81 (F 6)
 w7 : IsWith w0 X 8 84 (F 7)
 w8 : IsWith w0 X 16 85 (F 8)
 w9 : IsWith w0 X 2 86 (F 9)
 p10 : IsPlain X 87 (F 10)
 p11 : IsPlain X 88 (F 11)
 p12 : IsPlain X 89 (F 12)
theorem cf_mark (args : Array Value) (w : World) : (callFunc 121 args).run Tryz.prog w = .ok (.enter 121 args) w := by kernel_rfl
theorem cf_with (args : Array Value) (w : World) : (callFunc 123 args).run Tryz.prog w = .ok (.enter 123 args) w := by kernel_rfl
theorem cf_flags (args : Array Value) (w : World) : (callFunc 80 args).run Tryz.prog w = .ok (.enter 80 args) w := by kernel_rfl
theorem cf_pass (args : Array Value) (w : World) : (callFunc 81 args).run Tryz.prog w = .ok (.enter 81 args) w := by kernel_rfl
theorem cf_extra (args : Array Value) (w : World) : (callFunc 83 args).run Tryz.prog w = .ok (.enter 83 args) w := by kernel_rfl
theorem cf_letter (args : Array Value) (w : World) : (callFunc 84 args).run Tryz.prog w = .ok (.enter 84 args) w := by kernel_rfl
theorem cf_remark (args : Array Value) (w : World) : (callFunc 85 args).run Tryz.prog w = .ok (.enter 85 args) w := by kernel_rfl
theorem cf_headHolds (args : Array Value) (w : World) : (callFunc 86 args).run Tryz.prog w = .ok (.enter 86 args) w := by kernel_rfl
theorem cf_gbare (args : Array Value) (w : World) : (callFunc 87 args).run Tryz.prog w = .ok (.enter 87 args) w := by kernel_rfl
theorem cf_check (args : Array Value) (w : World) : (callFunc 88 args).run Tryz.prog w = .ok (.enter 88 args) w := by kernel_rfl
theorem cf_size (args : Array Value) (w : World) : (callFunc 89 args).run Tryz.prog w = .ok (.enter 89 args) w := by kernel_rfl
variable {w0 w : World} {base0 g off cap f d D X P : Nat} {B : List Nat} {most : Nat} {F : Nat → Value} {q : GQ} {lv vo : Value}
end Go.Proofs.YtbpahojchgpdnaaGreatDoor
namespace Go.Proofs.YtbpahojchgpdnaaGreatDoor
open Go.RowKit Go.Bel Go.Maps
structure GV (B : List Nat) (q : GQ) : Prop where
 al : q.i ≤ 9 → q.p % 8 = 0 ∧ q.head = crcWith 0 (B.take (q.p / 8))
 fl : 4 ≤ q.i → q.fl < 32
 lf : q.left < 65536
 ls : q.i ≠ 7 → q.ls = []
 lb : AllB q.ls
 ll : 8 * q.ls.length ≤ q.p
 nm : q.i ≤ 7 → q.nm = []
 l6 : q.i ≤ 3 → q.left = 6
 l7 : ¬ q.fl / 8 % 2 = 1 → q.ls = []
def gzRest (B : List Nat) (most : Nat) (q : GQ) (e : Nat) (out : List Nat) (used : Nat) (name : List Nat) : Prop :=
 match q.i with
 | 0 => q.p = 0 ∧ gzAll B most e out used name
 | 1 => q.p = 8 ∧ gz1 B most e out used name
 | 2 => q.p = 16 ∧ gz2 B most e out used name
 | 3 => q.p = 24 ∧ gzFlags B most 24 e out used name
 | 4 => gzSkip B most q.fl q.p q.left e out used name
 | 5 => gzExtra B most q.fl q.p e out used name
 | 6 => gzPass B most q.fl q.p q.left e out used name
 | 7 => gzName B most q.fl q.p q.ls e out used name
 | 8 => gzRemark B most q.fl q.p q.nm e out used name
 | 9 => gzCheck B most q.fl q.p q.nm e out used name
 | 10 => gzBody B most q.p q.nm e out used name
 | 11 => q.check = crcWith 0 q.o ∧ q.size = q.o.length ∧ q.p % 8 = 0 ∧ gzTail B q.p q.o q.nm e out used name
 | 12 => q.size = q.o.length ∧ q.p % 8 = 0 ∧ gzSize B q.p q.o q.nm e out used name
 | _ => e = 0 ∧ q.p = 8 * used ∧ q.o = out ∧ name = q.nm
variable {w0 w : World} {base0 g off cap f d D X P : Nat} {B : List Nat} {most : Nat} {F : Nat → Value} {q : GQ} {lv vo : Value} {e : Nat} {out : List Nat} {used : Nat} {name : List Nat}
end Go.Proofs.YtbpahojchgpdnaaGreatDoor
namespace Go.Proofs.YtbpahojchgpdnaaGreatDoor
open Go.RowKit Go.Bel Go.Maps
variable {w0 w : World} {base0 g off cap f d D X P : Nat} {B : List Nat} {most : Nat} {F : Nat → Value} {q : GQ} {lv vo : Value} {e : Nat} {out : List Nat} {used : Nat} {name : List Nat}
theorem flag_set {a k : Nat} (h : a &&& k = a / k % 2 * k) (hk : 0 < k) (hk2 : k < 4611686018427387904) (ha : a < 32) (hs : a / k % 2 = 1) : (bits .and .i64 (a : Int) (k : Int) == 0) = false := by
 rw [and_i64 a k (by omega) hk2, h, hs, beq_eq_false_iff_ne]
 omega
theorem flag_not {a k : Nat} (h : a &&& k = a / k % 2 * k) (hk2 : k < 4611686018427387904) (ha : a < 32) (hs : ¬ a / k % 2 = 1) : bits .and .i64 (a : Int) (k : Int) = 0 := by
 rw [and_i64 a k (by omega) hk2, h, show a / k % 2 = 0 by omega, Nat.zero_mul]
 rfl
theorem GV.byte (hv : GV B q) (hB : AllB B) (hi : q.i ≤ 9) (h4 : 4 ≤ q.i) (k : q.p + 8 ≤ 8 * B.length) (i' left' : Nat) (hi' : i' = q.i ∨ i' = q.i + 1) (hl : left' < 65536) (h7 : q.i ≠ 7) : GV B { q with i := i', p := q.p + 8, left := left', head := crcWith q.head [numAt B q.p 8] } := by
 obtain ⟨a1, a2⟩ := hv.al hi
 refine ⟨fun _ => ⟨by show (q.p + 8) % 8 = 0; omega, ?_⟩, fun _ => hv.fl h4, hl, fun _ => hv.ls h7, hv.lb, by show 8 * q.ls.length ≤ q.p + 8; have := hv.ll; omega, fun y => hv.nm (by have y : i' ≤ 7 := y; omega), fun y => by have y : i' ≤ 3 := y; omega, fun _ => hv.ls h7⟩
 show crcWith q.head [numAt B q.p 8] = crcWith 0 (B.take ((q.p + 8) / 8))
 rw [a2]
 exact crc_byte B q.p hB a1 k
theorem GV.skip (hv : GV B q) (hi : q.i ≤ 9) (h4 : 4 ≤ q.i) (left' : Nat) (hl : left' < 65536) (hls : q.ls = []) : GV B { q with i := q.i + 1, left := left' } :=
 ⟨fun _ => hv.al hi, fun _ => hv.fl h4, hl, fun _ => hls, hv.lb, hv.ll, fun y => hv.nm (by have y : q.i + 1 ≤ 7 := y; omega), fun y => by have y : q.i + 1 ≤ 3 := y; omega, fun _ => hls⟩
theorem GV.behind (hv : GV B q) (h4 : 8 ≤ q.i) (nb i' : Nat) (hi' : 10 ≤ i') : GV B { q with i := i', p := q.p + nb } :=
 ⟨fun y => by have y : i' ≤ 9 := y; omega, fun _ => hv.fl (by omega), hv.lf, fun _ => hv.ls (by omega), hv.lb, by show 8 * q.ls.length ≤ q.p + nb; have := hv.ll; omega, fun y => by have y : i' ≤ 7 := y; omega, fun y => by have y : i' ≤ 3 := y; omega, fun _ => hv.ls (by omega)⟩
end Go.Proofs.YtbpahojchgpdnaaGreatDoor
namespace Go.Proofs.YtbpahojchgpdnaaGreatDoor
open Go.RowKit Go.Bel Go.Maps
theorem IsMark.step0 {w w' : World} {X m : Nat} {v : Value} (h : IsMark w X m v) (hs : Step (fun _ => False) w w') : IsMark w' X m v := by
 obtain ⟨a, b, h1, h2, h3, h4, h5⟩ := h
 have hz := hs.size
 exact ⟨a, b, h1, ⟨h2.1, by omega⟩, ⟨h3.1, by omega⟩, hs.cell h4 (fun x => x), hs.cell h5 (fun x => x)⟩
theorem IsWith.step0 {w w' : World} {X flag id : Nat} {v : Value} (h : IsWith w X flag id v) (hs : Step (fun _ => False) w w') : IsWith w' X flag id v := by
 obtain ⟨a, b, c, h1, h2, h3, h4, h5, h6, h7⟩ := h
 have hz := hs.size
 exact ⟨a, b, c, h1, ⟨h2.1, by omega⟩, ⟨h3.1, by omega⟩, ⟨h4.1, by omega⟩, hs.cell h5 (fun x => x), hs.cell h6 (fun x => x), hs.cell h7 (fun x => x)⟩
theorem GzParts.far {w w' : World} {X : Nat} {F : Nat → Value} {S : Nat → Prop} (h : GzParts w X F) (hs : Step S w w') (hS : ∀ k, X < k → ¬ S k) : GzParts w' X F := by
 have hz := hs.size
 have fm : ∀ m v, IsMark w X m v → IsMark w' X m v := fun m v ⟨a, b, h1, h2, h3, h4, h5⟩ => ⟨a, b, h1, ⟨h2.1, by omega⟩, ⟨h3.1, by omega⟩, hs.cell (p := ⟨a, 0, none⟩) h4 (hS a h2.1), hs.cell (p := ⟨b, 0, none⟩) h5 (hS b h3.1)⟩
 have fw : ∀ fl id v, IsWith w X fl id v → IsWith w' X fl id v := fun fl id v ⟨a, b, c, h1, h2, h3, h4, h5, h6, h7⟩ => ⟨a, b, c, h1, ⟨h2.1, by omega⟩, ⟨h3.1, by omega⟩, ⟨h4.1, by omega⟩, hs.cell (p := ⟨a, 0, none⟩) h5 (hS a h2.1), hs.cell (p := ⟨b, 0, none⟩) h6 (hS b h3.1), hs.cell (p := ⟨c, 0, none⟩) h7 (hS c h4.1)⟩
 exact ⟨fm _ _ h.m0, fm _ _ h.m1, fm _ _ h.m2, h.p3, h.p4, fw _ _ _ h.w5, fw _ _ _ h.w6, fw _ _ _ h.w7, fw _ _ _ h.w8, fw _ _ _ h.w9, h.p10, h.p11, h.p12⟩
def markV (a b : Nat) : Value := .func (.func 121) #[] #[.pointer (some ⟨a, 0, none⟩), .pointer (some ⟨b, 0, none⟩)]
def withV (a b c : Nat) : Value := .func (.func 123) #[] #[.pointer (some ⟨a, 0, none⟩), .pointer (some ⟨b, 0, none⟩), .pointer (some ⟨c, 0, none⟩)]
def plainV (X id : Nat) : Value := .func (.func id) #[.pointer (some ⟨X, 0, none⟩)] #[]
theorem mark_new (X m : Nat) (w : World) (hX : X < w.heap.size) :
  Calls Tryz.prog 79 #[.pointer (some ⟨X, 0, none⟩), .int .i64 (m : Nat)] w fun r w' => ∃ a b, r = .returned (.func (.func 121) #[] #[.pointer (some ⟨a, 0, none⟩), .pointer (some ⟨b, 0, none⟩)]) ∧ Step (fun _ => False) w w' ∧ IsMark w' X m (markV a b) := by
 have hmf : ∀ (fn : Fn) (first cap : Array Value) (w : World), (Instr.makeFunc fn first cap).run Tryz.prog w = .ok (.func fn first cap) w := fun _ _ _ _ => rfl
 have HFIN := hide (show ∀ (t1 t2 : TypeId) (o1 o2 : Obj), o1 = .cells #[.pointer (some ⟨X, 0, none⟩)] t1 (0, 0) → o2 = .cells #[.int .i64 (m : Nat)] t2 (0, 0) → Step (fun _ => False) w ((w.alloc o1).alloc o2) ∧ IsMark ((w.alloc o1).alloc o2) X m (markV w.heap.size (w.heap.size + 1)) from fun t1 t2 o1 o2 e1 e2 => by
  have hz1 : (w.alloc o1).heap.size = w.heap.size + 1 := by simp
  have s1 : Step (fun _ => False) w (w.alloc o1) := (Step.refl _ _).alloc _
  have s2 : Step (fun _ => False) (w.alloc o1) ((w.alloc o1).alloc o2) := (Step.refl _ _).alloc _
  have b1 := heap_alloc_new w o1
  have b2 := heap_alloc_new (w.alloc o1) o2
  rw [hz1] at b2
  refine ⟨s1.trans s2, w.heap.size, w.heap.size + 1, rfl, ⟨hX, by simp; omega⟩, ⟨by omega, by simp⟩, s2.cell ?_ (fun x => x), ?_⟩
  ·subst e1; exact blk_cell b1 0 _ rfl
  ·subst e2; exact blk_cell b2 0 _ rfl)
 go_enter Tryz.func79, Tryz.ntmps79
 go_wp2_with fail
 go_ret
 exact ⟨_, _, rfl, unhide HFIN _ _ _ _ rfl rfl⟩
theorem with_new (X flag id : Nat) (w : World) (hX : X < w.heap.size) :
  Calls Tryz.prog 82 #[.pointer (some ⟨X, 0, none⟩), .int .i64 (flag : Nat), .func (.func id) #[.pointer (some ⟨X, 0, none⟩)] #[]] w fun r w' => ∃ a b c, r = .returned (.func (.func 123) #[] #[.pointer (some ⟨a, 0, none⟩), .pointer (some ⟨b, 0, none⟩), .pointer (some ⟨c, 0, none⟩)]) ∧ Step (fun _ => False) w w' ∧ IsWith w' X flag id (withV a b c) := by
 have hmf : ∀ (fn : Fn) (first cap : Array Value) (w : World), (Instr.makeFunc fn first cap).run Tryz.prog w = .ok (.func fn first cap) w := fun _ _ _ _ => rfl
 have HFIN := hide (show ∀ (t1 t2 t3 : TypeId) (o1 o2 o3 : Obj), o1 = .cells #[.pointer (some ⟨X, 0, none⟩)] t1 (0, 0) → o2 = .cells #[.int .i64 (flag : Nat)] t2 (0, 0) → o3 = .cells #[.func (.func id) #[.pointer (some ⟨X, 0, none⟩)] #[]] t3 (0, 0) → Step (fun _ => False) w (((w.alloc o1).alloc o2).alloc o3) ∧ IsWith (((w.alloc o1).alloc o2).alloc o3) X flag id (withV w.heap.size (w.heap.size + 1) (w.heap.size + 1 + 1)) from fun t1 t2 t3 o1 o2 o3 e1 e2 e3 => by
  have hz1 : (w.alloc o1).heap.size = w.heap.size + 1 := by simp
  have hz2 : ((w.alloc o1).alloc o2).heap.size = w.heap.size + 1 + 1 := by simp
  have s1 : Step (fun _ => False) w (w.alloc o1) := (Step.refl _ _).alloc _
  have s2 : Step (fun _ => False) (w.alloc o1) ((w.alloc o1).alloc o2) := (Step.refl _ _).alloc _
  have s3 : Step (fun _ => False) ((w.alloc o1).alloc o2) (((w.alloc o1).alloc o2).alloc o3) := (Step.refl _ _).alloc _
  have b1 := heap_alloc_new w o1
  have b2 := heap_alloc_new (w.alloc o1) o2
  have b3 := heap_alloc_new ((w.alloc o1).alloc o2) o3
  rw [hz1] at b2
  rw [hz2] at b3
  have hz := s3.size
  refine ⟨(s1.trans s2).trans s3, w.heap.size, w.heap.size + 1, w.heap.size + 1 + 1, rfl, ⟨hX, by simp; omega⟩, ⟨by omega, by simp⟩, ⟨by omega, by simp⟩, (s2.trans s3).cell ?_ (fun x => x), s3.cell ?_ (fun x => x), ?_⟩
  ·subst e1; exact blk_cell b1 0 _ rfl
  ·subst e2; exact blk_cell b2 0 _ rfl
  ·subst e3; exact blk_cell b3 0 _ rfl)
 go_enter Tryz.func82, Tryz.ntmps82
 go_wp2_with fail
 go_ret
 exact ⟨_, _, _, rfl, unhide HFIN _ _ _ _ _ _ rfl rfl rfl⟩
theorem gzipParts_ok (D : Nat) (w : World) :
  Calls Tryz.prog 52 #[.pointer (some ⟨D, 0, none⟩)] w fun r w' => ∃ (P : Nat) (F : Nat → Value), r = .returned (.slice (some ⟨P, 0, none⟩) 13 13) ∧ Step (fun _ => False) w w' ∧ w.heap.size < P ∧ w'.heap.size = P + 1 ∧ GzAt w' w.heap.size D 0 6 0 (.slice none 0 0) 0 0 ∧ GzParts w' w.heap.size F ∧ ∀ j, j < 13 → w'.cell? ⟨P, j, none⟩ = some (F j) := by
 have hmf : ∀ (fn : Fn) (first cap : Array Value) (w : World), (Instr.makeFunc fn first cap).run Tryz.prog w = .ok (.func fn first cap) w := fun _ _ _ _ => rfl
 go_enter Tryz.func52, Tryz.ntmps52
 go_wp2_with fail
 obtain ⟨X, hX⟩ : ∃ X, X = w.heap.size := ⟨_, rfl⟩
 obtain ⟨w0, hw0⟩ : ∃ w0, w0 = w.alloc (.cells #[.pointer (some ⟨D, 0, none⟩), .int .i64 0, .int .i64 6, .int .u32 0, .slice none 0 0, .int .u32 0, .int .u32 0] 137) := ⟨_, rfl⟩
 have hz0 : w0.heap.size = X + 1 := by rw [hw0, hX]; simp
 have hs0 : Step (fun _ => False) w w0 := by rw [hw0]; exact (Step.refl _ _).alloc _
 have hg0 : GzAt w0 X D 0 6 0 (.slice none 0 0) 0 0 := by rw [hw0, hX]; exact heap_alloc_new _ _
 have hX0 : X < w0.heap.size := by omega
 have HXX := hide hX
 rw [← hw0, ← hX]
 clear hw0 hX hz0
 refine (mark_new X 31 w0 hX0).mono ?_
 rintro r w1 ⟨a1, b1, rfl, hs1, hm1⟩
 have hX1 : X < w1.heap.size := by have := hs1.size; omega
 have HM1 := hide hm1
 have HS1 := hide hs1
 clear hs1 hm1
 go_wp2_with fail
 refine (mark_new X 139 w1 hX1).mono ?_
 rintro r w2 ⟨a2, b2, rfl, hs2, hm2⟩
 have hX2 : X < w2.heap.size := by have := hs2.size; omega
 have HM2 := hide hm2
 have HS2 := hide hs2
 clear hs2 hm2
 go_wp2_with fail
 refine (mark_new X 8 w2 hX2).mono ?_
 rintro r w3 ⟨a3, b3, rfl, hs3, hm3⟩
 have hX3 : X < w3.heap.size := by have := hs3.size; omega
 have HM3 := hide hm3
 have HS3 := hide hs3
 clear hs3 hm3
 go_wp2_with fail
 refine (with_new X 4 83 w3 hX3).mono ?_
 rintro r w4 ⟨a4, b4, c4, rfl, hs4, hm4⟩
 have hX4 : X < w4.heap.size := by have := hs4.size; omega
 have HM4 := hide hm4
 have HS4 := hide hs4
 clear hs4 hm4
 go_wp2_with fail
 refine (with_new X 4 81 w4 hX4).mono ?_
 rintro r w5 ⟨a5, b5, c5, rfl, hs5, hm5⟩
 have hX5 : X < w5.heap.size := by have := hs5.size; omega
 have HM5 := hide hm5
 have HS5 := hide hs5
 clear hs5 hm5
 go_wp2_with fail
 refine (with_new X 8 84 w5 hX5).mono ?_
 rintro r w6 ⟨a6, b6, c6, rfl, hs6, hm6⟩
 have hX6 : X < w6.heap.size := by have := hs6.size; omega
 have HM6 := hide hm6
 have HS6 := hide hs6
 clear hs6 hm6
 go_wp2_with fail
 refine (with_new X 16 85 w6 hX6).mono ?_
 rintro r w7 ⟨a7, b7, c7, rfl, hs7, hm7⟩
 have hX7 : X < w7.heap.size := by have := hs7.size; omega
 have HM7 := hide hm7
 have HS7 := hide hs7
 clear hs7 hm7
 go_wp2_with fail
 refine (with_new X 2 86 w7 hX7).mono ?_
 rintro r w8 ⟨a8, b8, c8, rfl, hs8, hm8⟩
 have hX8 : X < w8.heap.size := by have := hs8.size; omega
 have HM8 := hide hm8
 have HS8 := hide hs8
 clear hs8 hm8
 go_wp2_with fail
 go_ret
 have hXw := unhide HXX
 have t8 : Step (fun _ => False) w8 (w8.alloc (.cells #[markV a1 b1, markV a2 b2, markV a3 b3, plainV X 80, plainV X 81, withV a4 b4 c4, withV a5 b5 c5, withV a6 b6 c6, withV a7 b7 c7, withV a8 b8 c8, plainV X 87, plainV X 88, plainV X 89] 138)) := (Step.refl _ _).alloc _
 have t7 := (unhide HS8).trans t8
 have t6 := (unhide HS7).trans t7
 have t5 := (unhide HS6).trans t6
 have t4 := (unhide HS5).trans t5
 have t3 := (unhide HS4).trans t4
 have t2 := (unhide HS3).trans t3
 have t1 := (unhide HS2).trans t2
 have t0 := (unhide HS1).trans t1
 have hP : (w8.alloc (.cells #[markV a1 b1, markV a2 b2, markV a3 b3, plainV X 80, plainV X 81, withV a4 b4 c4, withV a5 b5 c5, withV a6 b6 c6, withV a7 b7 c7, withV a8 b8 c8, plainV X 87, plainV X 88, plainV X 89] 138)).heap[w8.heap.size]? = some (.cells #[markV a1 b1, markV a2 b2, markV a3 b3, plainV X 80, plainV X 81, withV a4 b4 c4, withV a5 b5 c5, withV a6 b6 c6, withV a7 b7 c7, withV a8 b8 c8, plainV X 87, plainV X 88, plainV X 89] 138 (0, 0)) := heap_alloc_new _ _
 refine ⟨w8.heap.size, fun j => #[markV a1 b1, markV a2 b2, markV a3 b3, plainV X 80, plainV X 81, withV a4 b4 c4, withV a5 b5 c5, withV a6 b6 c6, withV a7 b7 c7, withV a8 b8 c8, plainV X 87, plainV X 88, plainV X 89].getD j (.bool false), rfl, hs0.trans t0, by omega, by simp, by rw [← hXw]; exact t0.at_ hg0 (fun x => x), ?_, fun j hj => ?_⟩
 ·rw [← hXw]
  exact ⟨(unhide HM1).step0 t1, (unhide HM2).step0 t2, (unhide HM3).step0 t3, rfl, rfl, (unhide HM4).step0 t4, (unhide HM5).step0 t5, (unhide HM6).step0 t6, (unhide HM7).step0 t7, (unhide HM8).step0 t8, rfl, rfl, rfl⟩
 ·match j, hj with
  | 0, _ => exact blk_cell hP 0 _ rfl
  | 1, _ => exact blk_cell hP 1 _ rfl
  | 2, _ => exact blk_cell hP 2 _ rfl
  | 3, _ => exact blk_cell hP 3 _ rfl
  | 4, _ => exact blk_cell hP 4 _ rfl
  | 5, _ => exact blk_cell hP 5 _ rfl
  | 6, _ => exact blk_cell hP 6 _ rfl
  | 7, _ => exact blk_cell hP 7 _ rfl
  | 8, _ => exact blk_cell hP 8 _ rfl
  | 9, _ => exact blk_cell hP 9 _ rfl
  | 10, _ => exact blk_cell hP 10 _ rfl
  | 11, _ => exact blk_cell hP 11 _ rfl
  | 12, _ => exact blk_cell hP 12 _ rfl
theorem newWrapG (f most : Nat) (w : World) :
  Calls Tryz.prog 36 #[.int .i64 2, .pointer (some ⟨f, 0, none⟩), .int .i64 (most : Nat)] w fun e w' => e = .returned (.tuple #[.pointer (some ⟨w.heap.size + 1, 0, none⟩), .int .i64 0]) ∧
   ∃ P F, NewP w w' f most 13 (.cells #[.pointer (some ⟨w.heap.size + 1, 0, none⟩), .int .i64 0, .int .i64 6, .int .u32 0, .slice none 0 0, .int .u32 0, .int .u32 0] 137 (0, 0)) F P ∧ GzParts w' (w.heap.size + 2) F := by
 go_enter Tryz.func36, Tryz.ntmps36
 go_wp2_with fail
 refine (newDecG f most _).mono ?_
 rintro e w1 ⟨rfl, hw1⟩
 obtain ⟨d, hd⟩ : ∃ d, d = w.heap.size := ⟨_, rfl⟩
 have hz1 : w1.heap.size = d + 1 := by rw [hw1, hd]; simp
 have hs1 : Step (fun _ => False) w w1 := by rw [hw1]; exact (Step.refl _ _).alloc _
 have hd1 : w1.heap[d]? = some (freshD f most) := by rw [hw1, hd]; exact heap_alloc_new _ _
 have hdl : d ≤ w.heap.size := by omega
 have hdg : w.heap.size ≤ d := by omega
 rw [← hd]
 clear hw1 hd
 go_wp2_with fail
 obtain ⟨w2, hw2⟩ : ∃ w2, w2 = w1.alloc (.cells #[.pointer (some ⟨f, 0, none⟩), .pointer (some ⟨d, 0, none⟩), .slice none 0 0, .slice none 0 0, .string ⟨#[]⟩] 96) := ⟨_, rfl⟩
 have hz2 : w2.heap.size = d + 1 + 1 := by rw [hw2]; simp [hz1]
 have hs2 : Step (fun _ => False) w1 w2 := by rw [hw2]; exact (Step.refl _ _).alloc _
 have hD2 : WAtN w2 (d + 1) f d (.slice none 0 0) (.slice none 0 0) ⟨#[]⟩ := by rw [hw2, ← hz1]; exact heap_alloc_new _ _
 rw [← hw2]
 clear hw2
 refine (gzipParts_ok (d + 1) w2).mono ?_
 rintro e w3 ⟨P, F, rfl, hs3, hPl, hz3, hX3, hG3, hP3⟩
 rw [hz2] at hX3 hG3 hPl
 have hD3 := hs3.at_ hD2 (fun x => x)
 have k2 : w3.cell? ⟨d + 1, 2, none⟩ = some (.slice none 0 0) := blk_cell hD3 2 _ rfl
 have kf : w3.frozen? ⟨d + 1, 2, none⟩ = false := blk_free hD3 2
 have HFIN := hide (show NewP w (w3.setCell ⟨d + 1, 2, none⟩ (.slice (some ⟨P, 0, none⟩) 13 13)) f most 13 (.cells #[.pointer (some ⟨d + 1, 0, none⟩), .int .i64 0, .int .i64 6, .int .u32 0, .slice none 0 0, .int .u32 0, .int .u32 0] 137 (0, 0)) F P ∧ GzParts (w3.setCell ⟨d + 1, 2, none⟩ (.slice (some ⟨P, 0, none⟩) 13 13)) (d + 2) F from by
  obtain rfl : d = w.heap.size := by omega
  have hs4 : Step (· = w.heap.size + 1) w3 (w3.setCell ⟨w.heap.size + 1, 2, none⟩ (.slice (some ⟨P, 0, none⟩) 13 13)) := (Step.refl (· = w.heap.size + 1) w3).setCell (p := ⟨w.heap.size + 1, 2, none⟩) rfl _
  refine ⟨⟨((hs1.trans hs2).trans hs3).trans' hs4 (fun k hk x => by omega), by simp [hz3], by omega, hs4.at_ ((hs2.trans hs3).at_ hd1 (fun x => x)) (by omega), ?_, hs4.at_ hX3 (by omega), fun j hj => hs4.cell (hP3 j hj) (by show ¬ (P = w.heap.size + 1); omega)⟩, hG3.far hs4 (fun k hk => by show ¬ (k = w.heap.size + 1); omega)⟩
  have h9 := blk_set hD3 2 (.slice (some ⟨P, 0, none⟩) 13 13)
  simp at h9
  exact h9)
 clear hD3 hX3 hP3 hs1 hs2 hs3 hd1 hD2 hG3
 go_wp2_with fail
 go_ret2
 obtain rfl : d = w.heap.size := by omega
 exact ⟨rfl, P, F, unhide HFIN⟩
def UsedOk (B : List Nat) (most e : Nat) (out : List Nat) (used : Nat) : Prop := (e ≠ 0 → used = 0) ∧ used ≤ B.length ∧ out.length ≤ most
theorem gzNo_used {B : List Nat} {most x : Nat} {nm : List Nat} {e : Nat} {out : List Nat} {used : Nat} {name : List Nat} (h : gzNo x nm e out used name) : UsedOk B most e out used := ⟨fun _ => h.2.2.1, by rw [h.2.2.1]; exact Nat.zero_le _, by rw [h.2.1]; exact Nat.zero_le _⟩
theorem gzBody_used {B : List Nat} {most p : Nat} {nm : List Nat} {e : Nat} {out : List Nat} {used : Nat} {name : List Nat} (h : gzBody B most p nm e out used name) : UsedOk B most e out used := by
 obtain ⟨n, e1, o1, q1, hr, ht⟩ := h
 have hlen := (gAt_run hr).2.2
 by_cases h5 : e1 = 0
 ·rw [if_pos h5] at ht
  unfold gzTail at ht
  by_cases h6 : q1 + 32 ≤ 8 * B.length
  ·rw [if_pos h6] at ht
   by_cases h7 : numAt B q1 32 = crcWith 0 o1
   ·rw [if_pos h7] at ht
    obtain ⟨hto, _, ht⟩ := ht
    rw [← hto] at hlen
    by_cases h8 : q1 + 32 + 32 ≤ 8 * B.length
    ·rw [if_pos h8] at ht
     by_cases h9 : numAt B (q1 + 32) 32 = o1.length
     ·rw [if_pos h9] at ht
      exact ⟨fun x => absurd ht.1 x, by rw [ht.2]; omega, hlen⟩
     ·rw [if_neg h9] at ht
      exact ⟨fun _ => ht.2, by rw [ht.2]; exact Nat.zero_le _, hlen⟩
    ·rw [if_neg h8] at ht
     exact ⟨fun _ => ht.2, by rw [ht.2]; exact Nat.zero_le _, hlen⟩
   ·rw [if_neg h7] at ht
    exact ⟨fun _ => ht.2.2.1, by rw [ht.2.2.1]; exact Nat.zero_le _, by rw [ht.2.1]; exact hlen⟩
  ·rw [if_neg h6] at ht
   exact ⟨fun _ => ht.2.2.1, by rw [ht.2.2.1]; exact Nat.zero_le _, by rw [ht.2.1]; exact hlen⟩
 ·rw [if_neg h5] at ht
  exact ⟨fun _ => ht.2.2.1, by rw [ht.2.2.1]; exact Nat.zero_le _, by rw [ht.2.1]; exact hlen⟩
theorem gzCheck_used {B : List Nat} {most fl p : Nat} {nm : List Nat} {e : Nat} {out : List Nat} {used : Nat} {name : List Nat} (h : gzCheck B most fl p nm e out used name) : UsedOk B most e out used := by
 unfold gzCheck at h
 split at h
 ·split at h
  ·split at h
   ·exact gzBody_used h
   ·exact gzNo_used h
  ·exact gzNo_used h
 ·exact gzBody_used h
theorem gzRemark_used {B : List Nat} {most fl p : Nat} {nm : List Nat} {e : Nat} {out : List Nat} {used : Nat} {name : List Nat} (h : gzRemark B most fl p nm e out used name) : UsedOk B most e out used := by
 unfold gzRemark at h
 split at h
 ·obtain ⟨l, ok, q, _, h⟩ := h
  split at h
  ·exact gzCheck_used h
  ·exact gzNo_used h
 ·exact gzCheck_used h
theorem gzName_used {B : List Nat} {most fl p : Nat} {l0 : List Nat} {e : Nat} {out : List Nat} {used : Nat} {name : List Nat} (h : gzName B most fl p l0 e out used name) : UsedOk B most e out used := by
 unfold gzName at h
 split at h
 ·obtain ⟨l, ok, q, _, h⟩ := h
  split at h
  ·exact gzRemark_used h
  ·exact gzNo_used h
 ·exact gzRemark_used h
theorem gzPass_used {B : List Nat} {most fl p left : Nat} {e : Nat} {out : List Nat} {used : Nat} {name : List Nat} (h : gzPass B most fl p left e out used name) : UsedOk B most e out used := by
 unfold gzPass at h
 split at h
 ·split at h
  ·exact gzName_used h
  ·exact gzNo_used h
 ·exact gzName_used h
theorem gzMark_used {B : List Nat} {most m p : Nat} {K : Nat → List Nat → Nat → List Nat → Prop} {e : Nat} {out : List Nat} {used : Nat} {name : List Nat} (h : gzMark B m p K e out used name) (hK : K e out used name → UsedOk B most e out used) : UsedOk B most e out used := by
 unfold gzMark at h
 split at h
 ·split at h
  ·exact hK h
  ·exact gzNo_used h
 ·exact gzNo_used h
theorem gzAll_used {B : List Nat} {most : Nat} {e : Nat} {out : List Nat} {used : Nat} {name : List Nat} (h : gzAll B most e out used name) : UsedOk B most e out used := by
 refine gzMark_used h (fun h => gzMark_used h (fun h => gzMark_used h (fun h => ?_)))
 unfold gzFlags at h
 split at h
 ·split at h
  ·unfold gzSkip at h
   split at h
   ·unfold gzExtra at h
    split at h
    ·split at h
     ·exact gzPass_used h
     ·exact gzNo_used h
    ·exact gzName_used h
   ·exact gzNo_used h
  ·exact gzNo_used h
 ·exact gzNo_used h
theorem newWrapNo (kind : Int) (f most : Nat) (w : World) (h0 : ¬ kind = 0) (h1 : ¬ kind = 1) (h2 : ¬ kind = 2) :
  Calls Tryz.prog 36 #[.int .i64 kind, .pointer (some ⟨f, 0, none⟩), .int .i64 (most : Nat)] w fun e w' => e = .returned (.tuple #[.pointer none, .int .i64 1]) ∧ Step (fun _ => False) w w' := by
 have b0 : (kind == 0) = false := beq_eq_false_iff_ne.2 h0
 have b1 : (kind == 1) = false := beq_eq_false_iff_ne.2 h1
 have b2 : (kind == 2) = false := beq_eq_false_iff_ne.2 h2
 go_enter Tryz.func36, Tryz.ntmps36
 go_wp2_with fail
 refine (newDecG f most _).mono ?_
 rintro e w1 ⟨rfl, hw1⟩
 have hs1 : Step (fun _ => False) w w1 := by rw [hw1]; exact (Step.refl _ _).alloc _
 clear hw1 h0 h1 h2
 go_wp2_with fail
 go_ret2
 exact ⟨rfl, hs1.alloc _⟩
theorem unpackNo (kind : Int) (s : Value) (most : Int) (w : World) (hs : ∃ a n c, s = .slice a n c) (h0 : ¬ kind = 0) (h1 : ¬ kind = 1) (h2 : ¬ kind = 2) :
  Calls Tryz.prog 25 #[.int .i64 kind, s, .int .i64 most] w
   fun r w' => r = .returned (.agg #[.int .i64 ((1 : Nat) : Int), .slice none 0 0, .int .i64 ((0 : Nat) : Int), .string ⟨#[]⟩]) ∧ Step (fun _ => False) w w' := by
 have HNEW := hide (fun f w3 => newWrapNo kind f (asked most) w3 h0 h1 h2)
 clear h0 h1 h2
 go_enter Tryz.func25, Tryz.ntmps25
 go_wp2_with fail
 obtain ⟨R, hR⟩ : ∃ R, R = w.heap.size := ⟨_, rfl⟩
 obtain ⟨w1, hw1⟩ : ∃ w1, w1 = w.alloc (.cells #[.int .i64 0, .slice none 0 0, .int .i64 0, .string ⟨#[]⟩] 45) := ⟨_, rfl⟩
 have hs1 : Step (fun _ => False) w w1 := by rw [hw1]; exact (Step.refl _ _).alloc _
 have hz1 : w1.heap.size = R + 1 := by rw [hw1, hR]; simp
 have hr1 : w1.heap[R]? = some (.cells #[.int .i64 0, .slice none 0 0, .int .i64 0, .string ⟨#[]⟩] 45 (0, 0)) := by rw [hw1, hR]; exact heap_alloc_new _ _
 have hRw : w.heap.size ≤ R := by omega
 rw [← hw1, ← hR]
 clear hw1 hR
 refine (feedNew_any s w1 hs).mono ?_
 rintro e1 w2 ⟨rfl, hw2⟩
 have hs2 : Step (fun _ => False) w1 w2 := by rw [hw2]; exact (Step.refl _ _).alloc _
 clear hw2
 go_wp2_with fail
 refine (askedG most w2).mono ?_
 rintro e2 w3 ⟨rfl, rfl⟩
 go_wp2_with fail
 refine (unhide HNEW _ w3).mono ?_
 rintro e2 w4 ⟨rfl, hs4⟩
 have hr4 := (hs2.trans hs4).at_ hr1 (fun x => x)
 have q0 : w4.cell? ⟨R, 0, none⟩ = some (.int .i64 0) := blk_cell hr4 0 _ rfl
 have q1 : w4.cell? ⟨R, 1, none⟩ = some (.slice none 0 0) := blk_cell hr4 1 _ rfl
 have q2 : w4.cell? ⟨R, 2, none⟩ = some (.int .i64 0) := blk_cell hr4 2 _ rfl
 have q3 : w4.cell? ⟨R, 3, none⟩ = some (.string ⟨#[]⟩) := blk_cell hr4 3 _ rfl
 have g0 := blk_free hr4 0
 have g1 := blk_free hr4 1
 have g2 := blk_free hr4 2
 have g3 := blk_free hr4 3
 have hrl := lt_of_block hr4
 have HS := hide ((hs1.trans hs2).trans hs4)
 clear hs1 hs2 hs4 hr1 hr4 HNEW
 go_wp2_with fail
 have hfin : Step (· = R) w4 ((((w4.setCell ⟨R, 0, none⟩ (.int .i64 1)).setCell ⟨R, 1, none⟩ (.slice none 0 0)).setCell ⟨R, 2, none⟩ (.int .i64 0)).setCell ⟨R, 3, none⟩ (.string ⟨#[]⟩)) :=
  ((((Step.refl (· = R) w4).setCell (p := ⟨R, 0, none⟩) rfl _).setCell (p := ⟨R, 1, none⟩) rfl _).setCell (p := ⟨R, 2, none⟩) rfl _).setCell (p := ⟨R, 3, none⟩) rfl _
 refine bodyPost_ret (v := .agg #[.int .i64 1, .slice none 0 0, .int .i64 0, .string ⟨#[]⟩]) (by simp [results, Tryz.results25, go_sem, q0, q1, q2, q3]) rfl ⟨rfl, ?_⟩
 exact (unhide HS).trans' hfin (fun k hk x => by omega)
end Go.Proofs.YtbpahojchgpdnaaGreatDoor
