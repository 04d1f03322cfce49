/- Proved here: what a letter of a Gzip's name comes to. -/
import Derived.Laws.Cover4
import Derived.Test.YtbpahojchgpdnaaGreatDoorZlibB
import Derived.Test.YtbpahojchgpdnaaGreatDoorGzipB
set_option maxRecDepth 20000
set_option maxHeartbeats 4000000
namespace Go.Proofs.YtbpahojchgpdnaaGreatDoor
open Go.RowKit Go.Bel Go.Maps
theorem Tryz.info21 : (Tryz.prog.info? 21).map (fun i => (i.zero, i.size, i.bytes)) = some (some (.int .i32 0), 1, 4) := by kernel_rfl
def i32s (l : List Nat) : List Value := l.map fun c => .int .i32 (c : Nat)
abbrev LetAt (w : World) (bl : Nat) (lv : Value) (ls : List Nat) : Prop := w.ownsRow bl 21 1 lv ls.length (i32s ls)
theorem let_slice {w : World} {bl : Nat} {lv : Value} {ls : List Nat} (h : LetAt w bl lv ls) : ∃ a c, lv = .slice a ls.length c := by
 obtain ⟨_, ⟨hv, hn⟩ | ⟨g, cap, _, hv, _⟩⟩ := h
 ·exact ⟨none, 0, by rw [hv, hn]⟩
 ·exact ⟨_, _, hv⟩
theorem let_ne {w : World} {bl h t : Nat} {v : Value} {ys : List Nat} {A : Array Value} (own : LetAt w bl v ys) (blk : w.heap[h]? = some (.cells A t (0, 0))) (ht : t ≠ 21) : v.ownBlock ≠ some h := fun x => by
 obtain ⟨_, ⟨hv, _⟩ | ⟨g, cap, cur, hv, _, hh, _⟩⟩ := own
 ·rw [hv] at x; cases x
 ·rw [hv] at x
  cases x
  rw [hh] at blk
  cases blk
  exact ht rfl
theorem let_step {S : Nat → Prop} {w w' : World} {bl : Nat} {v : Value} {ys : List Nat} (h : LetAt w bl v ys) (hs : Step S w w') (hn : ∀ k, v.ownBlock = some k → ¬ S k) : LetAt w' bl v ys :=
 ownsRow_of_block h fun k hk => hs.block k (h.lt k hk).2 (hn k hk)
theorem letter_more (X D f d g off cap z p fl left head check size bl : Nat) (lv : Value) (ls : List Nat) (B : List Nat) (parts vo : Value) (nm : ByteArray) (w : World) (h : GIn w X D f d g off cap z p fl left head lv check size B parts vo nm) (hL : LetAt w bl lv ls) (hc0 : numAt B p 8 ≠ 0) (hn : ls.length ≤ 8388608) (hbl : bl ≤ w.heap.size) :
  Calls Tryz.prog 84 #[.pointer (some ⟨X, 0, none⟩)] w (ReadsTo 8 p B f (.slice (fedA g off B.length) B.length cap) z w fun r w' => r = .returned (.tuple #[.bool false, .int .i64 ((0 : Nat) : Int)]) ∧ ∃ lv', GzAt w' X D fl left (crcWith head [numAt B p 8]) lv' check size ∧ LetAt w' bl lv' (ls ++ [numAt B p 8]) ∧ (∀ k, lv'.ownBlock = some k → lv.ownBlock = some k ∨ w.heap.size ≤ k) ∧ WAtN w' D f d parts vo nm ∧ Step (fun k => k = f ∨ k = X ∨ lv.ownBlock = some k) w w') := by
 have hC := h.byte
 by_cases hlt : p + 8 ≤ 8 * B.length
 ·have HC := hide (hC.mono (fun r w' h => h.ok hlt))
  have HH := hide h
  have hx := numAt_lt B p 8
  clear hC h
  generalize numAt B p 8 = c at *
  have hc : c < 256 := hx
  have hpos : (c : Int) > 0 := by omega
  obtain ⟨la, lc, hlv⟩ := let_slice hL
  obtain ⟨i0, hi, hz0, hz1, hz2⟩ := info_parts Tryz.info21
  have HL := hide hL
  have HLV := hide hlv
  clear hL hlv
  go_enter Tryz.func84, Tryz.ntmps84
  go_wp2_with fail
  refine (unhide HC).mono ?_
  rintro r w1 ⟨h1, rfl, h2, h3⟩
  have hl1 : LetAt w1 bl lv ls := let_step (unhide HL) h3 (fun k hk x => by
   rcases x with x | x
   ·exact let_ne (unhide HL) (unhide HH).feed (by decide) (by rw [hk, x])
   ·exact let_ne (unhide HL) (unhide HH).gz (by decide) (by rw [hk, x]))
  have z4 : w1.cell? ⟨X, 4, none⟩ = some lv := blk_cell h2 4 _ rfl
  have zf : w1.frozen? ⟨X, 4, none⟩ = false := blk_free h2 4
  have hXl := lt_of_block h2
  rw [unhide HLV] at z4
  have HL1 := hide hl1
  have H1 := hide h1
  have H2 := hide h2
  have H3 := hide h3
  clear h1 h2 h3 hl1 HC
  go_wp2_with (at_builtin; refine wpList_append_row _ rfl _ _ 135 rfl bl 21 i0 (.int .i32 0) 1 4 Tryz.underlying135 hi hz0 hz1 hz2 rfl (by decide) _ ls.length (i32s ls) rfl (by rw [← unhide HLV]; exact (unhide HL1).alloc _) ⟨w1.heap.size, 0, none⟩ 1 1 [.int .i32 (c : Nat)] rfl rfl ?c1 ?c2 (by decide) ?c3 ?c4 ?c5 ?_)
  case c1 =>
   intro j u hj
   match j, hj with
   | 0, hj => simp at hj; subst hj; exact cell_of_one (heap_alloc_new w1 (.cells #[.int .i32 (c : Nat)] 21))
  case c2 => intro u hu; simp at hu; subst hu; rfl
  case c3 => unfold maxLen; omega
  case c4 => omega
  case c5 => have := (unhide H3).size; simp; omega
  intro g' cap' w2 hown' hgr hg'
  have hal : Step (fun _ => False) w1 (w1.alloc (.cells #[.int .i32 (c : Nat)] 21)) := (Step.refl _ _).alloc _
  have hs2 : Step (fun k => lv.ownBlock = some k) w1 w2 := (hal.mono (fun _ x => x.elim)).grown hgr (fun k hk => .inl (by rw [unhide HLV]; exact hk))
  have hnX : ¬ lv.ownBlock = some X := let_ne (unhide HL) (unhide HH).gz (by decide)
  have hnD : ¬ lv.ownBlock = some D := let_ne (unhide HL) (unhide HH).dec (by decide)
  have hnf : ¬ lv.ownBlock = some f := let_ne (unhide HL) (unhide HH).feed (by decide)
  have hx2 := hs2.at_ (unhide H2) hnX
  have y4 : w2.cell? ⟨X, 4, none⟩ = some lv := blk_cell hx2 4 _ rfl
  have yf : w2.frozen? ⟨X, 4, none⟩ = false := blk_free hx2 4
  have hgb : lv.ownBlock = some g' ∨ w.heap.size ≤ g' := by
   rcases hg' with x | x
   ·exact .inl (by rw [unhide HLV]; exact x)
   ·refine .inr ?_
    have h5 := (unhide H3).size
    have h6 := hal.size
    omega
  have hgX : (Value.slice (some ⟨g', 0, none⟩) (ls.length + 1) cap').ownBlock ≠ some X := fun x => by
   have x' : g' = X := by simpa [Value.ownBlock] using x
   rcases hgb with y | y
   ·exact hnX (by rw [y, x'])
   ·have := lt_of_block (unhide HH).gz; omega
  have HFIN := hide (show ReadsTo 8 p B f (.slice (fedA g off B.length) B.length cap) z w (fun r w' => r = .returned (.tuple #[.bool false, .int .i64 ((0 : Nat) : Int)]) ∧ ∃ lv', GzAt w' X D fl left (crcWith head [c]) lv' check size ∧ LetAt w' bl lv' (ls ++ [c]) ∧ (∀ k, lv'.ownBlock = some k → lv.ownBlock = some k ∨ w.heap.size ≤ k) ∧ WAtN w' D f d parts vo nm ∧ Step (fun k => k = f ∨ k = X ∨ lv.ownBlock = some k) w w') (.returned (.tuple #[.bool false, .int .i64 ((0 : Nat) : Int)])) (w2.setCell ⟨X, 4, none⟩ (.slice (some ⟨g', 0, none⟩) (ls.length + 1) cap')) from by
   have hs3 : Step (· = X) w2 (w2.setCell ⟨X, 4, none⟩ (.slice (some ⟨g', 0, none⟩) (ls.length + 1) cap')) := (Step.refl (· = X) w2).setCell (p := ⟨X, 4, none⟩) rfl _
   have hst : Step (fun k => k = f ∨ k = X ∨ lv.ownBlock = some k) w (w2.setCell ⟨X, 4, none⟩ (.slice (some ⟨g', 0, none⟩) (ls.length + 1) cap')) := (((unhide H3).mono (fun k x => x.elim .inl (fun y => .inr (.inl y)))).trans (hs2.mono (fun k x => .inr (.inr x)))).trans (hs3.mono (fun k x => .inr (.inl x)))
   refine .inl ⟨hlt, hs3.at_ (hs2.at_ (unhide H1) hnf) (fun x => (unhide HH).Xf x.symm), rfl, .slice (some ⟨g', 0, none⟩) (ls.length + 1) cap', ?_, ?_, fun k hk => ?_, hst.at_ (unhide HH).dec (fun x => by
    rcases x with x | x | x
    ·exact (unhide HH).Df x
    ·exact (unhide HH).DX x
    ·exact hnD x), hst⟩
   ·have h9 := blk_set hx2 4 (.slice (some ⟨g', 0, none⟩) (ls.length + 1) cap')
    simpa using h9
   ·have h8 : w2.ownsRow bl 21 1 (.slice (some ⟨g', 0, none⟩) (ls.length + 1) cap') (ls ++ [c]).length (i32s (ls ++ [c])) := by
     have e1 : i32s (ls ++ [c]) = i32s ls ++ [.int .i32 (c : Nat)] := by simp [i32s]
     rw [e1, List.length_append]
     exact hown'
    exact let_step h8 hs3 (fun k hk x => hgX (by rw [hk, x]))
   ·have x' : g' = k := by simpa [Value.ownBlock] using hk
    rw [← x']
    exact hgb)
  clear hx2 hs2 hown' hgr hg' hal hgb hgX hnX hnD hnf
  rw [unhide HLV] at y4
  go_wp2_with fail
  go_ret2
  exact unhide HFIN
 ·have HC := hide (hC.mono (fun r w' h => h.lost hlt))
  have HG := hide (show ∀ w', FeedAt w' f (.slice (fedA g off B.length) B.length cap) (8 * B.length) z → Step (· = f) w w' → ReadsTo 8 p B f (.slice (fedA g off B.length) B.length cap) z w (fun r w' => r = .returned (.tuple #[.bool false, .int .i64 ((0 : Nat) : Int)]) ∧ ∃ lv', GzAt w' X D fl left (crcWith head [numAt B p 8]) lv' check size ∧ LetAt w' bl lv' (ls ++ [numAt B p 8]) ∧ (∀ k, lv'.ownBlock = some k → lv.ownBlock = some k ∨ w.heap.size ≤ k) ∧ WAtN w' D f d parts vo nm ∧ Step (fun k => k = f ∨ k = X ∨ lv.ownBlock = some k) w w') lost w' from fun w' h1 h2 => .inr ⟨by omega, rfl, h1, h2⟩)
  clear hC hlt h hL
  go_enter Tryz.func84, Tryz.ntmps84
  go_wp2_with fail
  refine (unhide HC).mono ?_
  rintro r w1 ⟨rfl, h1, h2⟩
  have HGG := hide (unhide HG w1 h1 h2)
  clear h1 h2 HG HC
  go_wp2_with fail
  exact ⟨rfl, unhide HGG⟩
theorem enc_latin (c : Nat) (h : c < 256) : Utf8.encode (c : Int) = baOf (latinC c) := by
 have hv : Utf8.valid (c : Int) = true := by simp [Utf8.valid]; omega
 unfold Utf8.encode latinC
 simp only [hv, if_true, Int.toNat_natCast]
 by_cases h1 : c < 128
 ·rw [if_pos h1, if_pos h1]; rfl
 ·rw [if_neg h1, if_neg h1, if_pos (by omega)]; rfl
theorem runes_latin (ls : List Nat) (h : ∀ c ∈ ls, c < 256) : runesBytes (ls.map fun c : Nat => (c : Int)) = baOf (latinB ls) := by
 have key : ∀ (l : List Nat) (r : ByteArray), (∀ c ∈ l, c < 256) → (l.map fun c : Nat => (c : Int)).foldl (fun r n => r ++ Utf8.encode n) r = r ++ baOf (latinB l) := by
  intro l
  induction l with
  | nil => intro r _; apply ByteArray.ext; simp [latinB, baOf]
  | cons c l ih =>
   intro r hl
   have hc := hl c (by simp)
   rw [List.map_cons, List.foldl_cons, ih _ (fun x hx => hl x (by simp [hx])), enc_latin c hc]
   apply ByteArray.ext
   simp [latinB, baOf, ByteArray.append_assoc]
 have h1 := key ls ByteArray.empty h
 unfold runesBytes
 rw [h1]
 apply ByteArray.ext
 simp
theorem letter_end (X D f d g off cap z p fl left head check size bl : Nat) (lv : Value) (ls : List Nat) (B : List Nat) (parts vo : Value) (nm : ByteArray) (w : World) (h : GIn w X D f d g off cap z p fl left head lv check size B parts vo nm) (hL : LetAt w bl lv ls) (hc0 : numAt B p 8 = 0) (hlb : AllB ls) :
  Calls Tryz.prog 84 #[.pointer (some ⟨X, 0, none⟩)] w (GzTo 8 p B f (.slice (fedA g off B.length) B.length cap) z X D d fl left (crcWith head [numAt B p 8]) (.slice none 0 0) check size parts vo (baOf (latinB ls)) true 0 (fun k => k = f ∨ k = X ∨ k = D) w) := by
 have hC := h.byte
 by_cases hlt : p + 8 ≤ 8 * B.length
 ·have HC := hide (hC.mono (fun r w' h => h.ok hlt))
  have HH := hide h
  clear hC h
  have HCC := hide hc0
  rw [hc0] at HC
  clear hc0
  obtain ⟨la, lc, hlv⟩ := let_slice hL
  have HL := hide hL
  have HLV := hide hlv
  clear hL hlv
  go_enter Tryz.func84, Tryz.ntmps84
  go_wp2_with fail
  refine (unhide HC).mono ?_
  rintro r w1 ⟨h1, rfl, h2, h3⟩
  have hl1 : LetAt w1 bl lv ls := let_step (unhide HL) h3 (fun k hk x => by
   rcases x with x | x
   ·exact let_ne (unhide HL) (unhide HH).feed (by decide) (by rw [hk, x])
   ·exact let_ne (unhide HL) (unhide HH).gz (by decide) (by rw [hk, x]))
  have hcv : ∀ n, (convert 135 9 lv).run Tryz.prog (w1.drewN n) = .ok (.string (baOf (latinB ls))) (w1.drewN n) := fun n => by
   have hl1 : LetAt (w1.drewN n) bl lv ls := let_step hl1 ((Step.refl (fun _ => False) w1).drewN n) (fun _ _ x => x)
   revert hl1
   generalize w1.drewN n = w1
   intro hl1
   rw [← runes_latin ls hlb]
   have hl2 := hl1
   obtain ⟨_, ⟨hv, hn⟩ | ⟨k, cap2, cur, hv, _⟩⟩ := hl1
   ·rw [hv, List.eq_nil_of_length_eq_zero hn]
    exact run_convert_runes_nil w1 135 9 21 0 0 Tryz.underlying135 Tryz.underlying21 Tryz.underlying9
   ·subst hv
    have h9 := run_convert_runes (P := Tryz.prog) w1 135 9 21 ⟨k, 0, none⟩ ls.length cap2 (ls.map fun c : Nat => (c : Int)) (by simp) Tryz.underlying135 Tryz.underlying21 Tryz.underlying9 (fun j hj => by
     have hj' : j < ls.length := by simpa using hj
     have h8 : w1.ownsRow bl 21 1 (.slice (some ⟨k, 0, none⟩) ls.length cap2) ls.length (i32s ls) := hl2
     have h7 := h8.cellAt j (by omega)
     rw [show (⟨k, 0, none⟩ : Addr).add j = ⟨k, j, none⟩ from by
      unfold Addr.add
      split
      ·rename_i h; simp_all
      ·simp]
     rw [h7]
     simp [i32s, List.getD, List.getElem?_map, List.getElem?_eq_getElem hj'])
    rw [List.take_of_length_le (by simp)] at h9
    exact h9
  have z4 : w1.cell? ⟨X, 4, none⟩ = some lv := blk_cell h2 4 _ rfl
  have zf : w1.frozen? ⟨X, 4, none⟩ = false := blk_free h2 4
  have z0 : w1.cell? ⟨X, 0, none⟩ = some (.pointer (some ⟨D, 0, none⟩)) := blk_cell h2 0 _ rfl
  have hD1 := h3.at_ (unhide HH).dec (fun x => x.elim (unhide HH).Df (unhide HH).DX)
  have zn : w1.cell? ⟨D, 4, none⟩ = some (.string nm) := blk_cell hD1 4 _ rfl
  have znf : w1.frozen? ⟨D, 4, none⟩ = false := blk_free hD1 4
  rw [unhide HLV] at z4 hcv
  have H1 := hide h1
  have H2 := hide h2
  have H3 := hide h3
  have HD1 := hide hD1
  have n1 : ¬ D = X := (unhide HH).DX
  have n2 : ¬ X = D := fun x => n1 x.symm
  have hXl := lt_of_block h2
  have hDl := lt_of_block hD1
  clear h1 h2 h3 hl1 hD1 HC
  have hcv1 : (convert 135 9 (.slice la ls.length lc)).run Tryz.prog w1.drew = .ok (.string (baOf (latinB ls))) w1.drew := hcv 1
  have hcv0 : (convert 135 9 (.slice la ls.length lc)).run Tryz.prog w1 = .ok (.string (baOf (latinB ls))) w1 := hcv 0
  clear hcv
  go_wp2_with fail
  have HFIN := hide (show ∀ w5 w6, w5 = w1.drew.setCell ⟨D, 4, none⟩ (.string (baOf (latinB ls))) → w6 = w5.setCell ⟨X, 4, none⟩ (.slice none 0 0) → GzTo 8 p B f (.slice (fedA g off B.length) B.length cap) z X D d fl left (crcWith head [numAt B p 8]) (.slice none 0 0) check size parts vo (baOf (latinB ls)) true 0 (fun k => k = f ∨ k = X ∨ k = D) w (.returned (.tuple #[.bool true, .int .i64 ((0 : Nat) : Int)])) w6 from fun w5 w6 e5 e6 => by
   have hdr : Step (fun _ => False) w1 w1.drew := (Step.refl _ _).drew
   have s5 : Step (· = D) w1.drew w5 := by rw [e5]; exact (Step.refl (· = D) _).setCell (p := ⟨D, 4, none⟩) rfl _
   have s6 : Step (· = X) w5 w6 := by rw [e6]; exact (Step.refl (· = X) _).setCell (p := ⟨X, 4, none⟩) rfl _
   have hst : Step (fun k => k = f ∨ k = X ∨ k = D) w w6 := ((((unhide H3).mono (fun k x => x.elim .inl (fun y => .inr (.inl y)))).trans (hdr.mono (fun _ x => x.elim))).trans (s5.mono (fun k x => .inr (.inr x)))).trans (s6.mono (fun k x => .inr (.inl x)))
   have hD5 : WAtN w5 D f d parts vo (baOf (latinB ls)) := by
    have h9 := blk_set (hdr.at_ (unhide HD1) (fun x => x)) 4 (.string (baOf (latinB ls)))
    rw [e5]
    simpa using h9
   have hX5 := s5.at_ (hdr.at_ (unhide H2) (fun x => x)) n2
   refine .inl ⟨hlt, s6.at_ (s5.at_ (hdr.at_ (unhide H1) (fun x => x)) (fun x => (unhide HH).Df x.symm)) (fun x => (unhide HH).Xf x.symm), rfl, ?_, s6.at_ hD5 n1, hst⟩
   have h9 := blk_set hX5 4 (.slice none 0 0)
   rw [e6, unhide HCC]
   simpa using h9)
  clear HL HLV H1 H2 H3 HD1
  go_region
  go_wp2_with fail
  go_ret2
  exact unhide HFIN _ _ rfl rfl
 ·have HC := hide (hC.mono (fun r w' h => h.lost hlt))
  have HG := hide (show ∀ w', FeedAt w' f (.slice (fedA g off B.length) B.length cap) (8 * B.length) z → Step (· = f) w w' → GzTo 8 p B f (.slice (fedA g off B.length) B.length cap) z X D d fl left (crcWith head [numAt B p 8]) (.slice none 0 0) check size parts vo (baOf (latinB ls)) true 0 (fun k => k = f ∨ k = X ∨ k = D) w lost w' from fun w' h1 h2 => .inr ⟨by omega, rfl, h1, h2⟩)
  clear hC hlt h hL
  go_enter Tryz.func84, Tryz.ntmps84
  go_wp2_with fail
  refine (unhide HC).mono ?_
  rintro r w1 ⟨rfl, h1, h2⟩
  have HGG := hide (unhide HG w1 h1 h2)
  clear h1 h2 HG HC
  go_wp2_with fail
  exact ⟨rfl, unhide HGG⟩
end Go.Proofs.YtbpahojchgpdnaaGreatDoor
namespace Go.Proofs.YtbpahojchgpdnaaGreatDoor
open Go.RowKit Go.Bel Go.Maps
structure GQ where
 i : Nat
 p : Nat
 fl : Nat
 left : Nat
 head : Nat
 check : Nat
 size : Nat
 ls : List Nat
 o : List Nat
 nm : List Nat
structure GM (w0 w : World) (base0 g off cap f d D X P : Nat) (B : List Nat) (most : Nat) (F : Nat → Value) (q : GQ) (lv vo : Value) : Prop where
 env : WEnv w0 w D d f X g off P B 13 F
 dec : WAtN w D f d (partsAt P q.i 13) vo (baOf q.nm)
 gz : GzAt w X D q.fl q.left q.head lv q.check q.size
 lets : LetAt w w0.heap.size lv q.ls
 feed : FeedAt w f (.slice (fedA g off B.length) B.length cap) q.p 0
 big : P < w0.heap.size
 row : Taken w base0 vo q.o
 fresh : q.i ≤ 10 → w.heap[d]? = some (freshD f most) ∧ vo = .slice none 0 0 ∧ q.o = [] ∧ q.check = 0 ∧ q.size = 0
 nolets : q.ls = [] → lv = .slice none 0 0
 here : q.p ≤ 8 * B.length
 hh : q.head < 4294967296
theorem GM.gin {w0 w w1 : World} {base0 g off cap f d D X P : Nat} {B : List Nat} {most : Nat} {F : Nat → Value} {q : GQ} {lv vo : Value} (h : GM w0 w base0 g off cap f d D X P B most F q lv vo) (pl : ZPl base0 g f d D X P) (hs : Step (fun _ => False) w w1) : GIn w1 X D f d g off cap 0 q.p q.fl q.left q.head lv q.check q.size B (partsAt P q.i 13) vo (baOf q.nm) := by
 have h1 := pl.b4; have h2 := pl.gb; have h3 := pl.bf; have h4 := pl.fd; have h5 := pl.dD; have h6 := pl.DX; have h7 := pl.XP
 exact ⟨hs.at_ h.gz (fun x => x), hs.at_ h.dec (fun x => x), hs.at_ h.feed (fun x => x), h.env.src.step hs (fun x => x), by omega, by omega, by omega, by omega, h.here, h.hh⟩
def GS' (f X D : Nat) (lv : Value) (k : Nat) : Prop := k = f ∨ k = X ∨ k = D ∨ lv.ownBlock = some k
def PartTo (nb f d D X P : Nat) (s : Value) (B : List Nat) (bl : Nat) (q q' : GQ) (thr : Bool) (x : Nat) (lv vo : Value) (w1 : World) : Ending → World → Prop :=
 ReadsTo nb q.p B f s 0 w1 fun r w' => r = .returned (.tuple #[.bool thr, .int .i64 (x : Nat)]) ∧ ∃ lv', GzAt w' X D q'.fl q'.left q'.head lv' q'.check q'.size ∧ LetAt w' bl lv' q'.ls ∧ (∀ k, lv'.ownBlock = some k → lv.ownBlock = some k ∨ w1.heap.size ≤ k) ∧ WAtN w' D f d (partsAt P q.i 13) vo (baOf q'.nm) ∧ (q'.ls = [] → lv' = .slice none 0 0) ∧ Step (GS' f X D lv) w1 w'
theorem gRound {w0 w : World} {base0 g off cap f d D X P : Nat} {B : List Nat} {most : Nat} {F : Nat → Value} {q q' : GQ} {lv vo : Value} (h : GM w0 w base0 g off cap f d D X P B most F q lv vo) (pl : ZPl base0 g f d D X P) (hi : q.i < 13) (nb id : Nat) (first caps : Array Value) (hF : F q.i = .func (.func id) first caps)
  (hcf : ∀ w, (callFunc id (first ++ caps)).run Tryz.prog w = .ok (.enter id (first ++ caps)) w) (thr : Bool) (x : Nat)
  (hc : ∀ w1, Step (fun _ => False) w w1 → w1.heap.size = w.heap.size + 3 → Calls Tryz.prog id (first ++ caps) w1 (PartTo nb f d D X P (.slice (fedA g off B.length) B.length cap) B w0.heap.size q q' thr x lv vo w1))
  (ei : q'.i = if thr then q.i + 1 else q.i) (ep : q'.p = q.p + nb) (eo : q'.o = q.o) (ef : q'.i ≤ 10 → q.i ≤ 10 ∧ q'.check = 0 ∧ q'.size = 0) (eh : q'.head < 4294967296) (hl0 : 10 < q.i → q.ls = []) :
  ZW f D w fun r w2 => (q.p + nb ≤ 8 * B.length ∧ r = .returned (.int .i64 (x : Nat)) ∧ ∃ lv', GM w0 w2 base0 g off cap f d D X P B most F q' lv' vo) ∨ (8 * B.length < q.p + nb ∧ r = .returned (.int .i64 ((3 : Nat) : Int)) ∧ (∃ lv', GM w0 w2 base0 g off cap f d D X P B most F q lv' vo)) := by
 have h1 := pl.b4; have h2 := pl.gb; have h3 := pl.bf; have h4 := pl.fd; have h5 := pl.dD; have h6 := pl.DX; have h7 := pl.XP
 have hb := h.big
 have hz := h.env.step.size
 have hlvk : ∀ k, lv.ownBlock = some k → w0.heap.size ≤ k ∧ k < w.heap.size := fun k hk => h.lets.lt k hk
 have hd := h.dec
 have hdl := lt_of_block hd
 rw [partsAt_lt hi] at hd
 have hvok : ∀ k, vo.ownBlock = some k → k ≠ D ∧ k ≠ f ∧ k ≠ X ∧ lv.ownBlock ≠ some k ∧ k < w.heap.size := by
  intro k hk
  refine ⟨fun e => taken_ne h.row h.dec (by decide) (by rw [hk, e]), fun e => taken_ne h.row h.feed (by decide) (by rw [hk, e]), fun e => taken_ne h.row h.gz (by decide) (by rw [hk, e]), fun e => ?_, (h.row.lt k hk).2⟩
  by_cases y : q.i ≤ 10
  ·rw [(h.fresh y).2.1] at hk; cases hk
  ·rw [h.nolets (hl0 (by omega))] at e; cases e
 /- what any such step leaves -/
 have hany : ∀ w2, Step (fun k => k = D ∨ GS' f X D lv k ∨ k = w.heap.size + 1) w w2 → WEnv w0 w2 D d f X g off P B 13 F ∧ Taken w2 base0 vo q.o ∧ (w.heap[d]? = some (freshD f most) → w2.heap[d]? = some (freshD f most)) := fun w2 hs => by
  refine ⟨h.env.go hs (fun k y => ?_) h2 h1, taken_step h.row hs (fun k hk y => ?_), fun y => hs.at_ y (fun z => ?_)⟩
  ·rcases y with y | (y | y | y | y) | y
   ·exact ⟨by omega, by omega, fun _ => .inl y⟩
   ·exact ⟨by omega, by omega, fun _ => .inr (.inr (.inl y))⟩
   ·exact ⟨by omega, by omega, fun _ => .inr (.inr (.inr y))⟩
   ·exact ⟨by omega, by omega, fun _ => .inl y⟩
   ·have := hlvk k y; exact ⟨by omega, by omega, fun _ => by omega⟩
   ·exact ⟨by omega, by omega, fun _ => by omega⟩
  ·obtain ⟨a1, a2, a3, a4, a5⟩ := hvok k hk
   rcases y with y | (y | y | y | y) | y
   ·exact a1 y
   ·exact a2 y
   ·exact a3 y
   ·exact a1 y
   ·exact a4 y
   ·omega
  ·rcases z with y | (y | y | y | y) | y
   ·omega
   ·omega
   ·omega
   ·omega
   ·have := hlvk d y; omega
   ·omega
 refine (wwhole_part D f d P q.i (13 - q.i - 1) q.p id first caps (.slice (fedA g off B.length) B.length cap) vo 0 (baOf q.nm) (GS' f X D lv)
  (fun t y w' => q.p + nb ≤ 8 * B.length ∧ t = thr ∧ y = x ∧ FeedAt w' f (.slice (fedA g off B.length) B.length cap) (q.p + nb) 0 ∧ ∃ lv', GzAt w' X D q'.fl q'.left q'.head lv' q'.check q'.size ∧ LetAt w' w0.heap.size lv' q'.ls ∧ (∀ k, lv'.ownBlock = some k → lv.ownBlock = some k ∨ w.heap.size + 3 ≤ k) ∧ WAtN w' D f d (partsAt P q.i 13) vo (baOf q'.nm) ∧ (q'.ls = [] → lv' = .slice none 0 0))
  (fun w' => 8 * B.length < q.p + nb ∧ WAtN w' D f d (partsAt P q.i 13) vo (baOf q.nm) ∧ GzAt w' X D q.fl q.left q.head lv q.check q.size ∧ LetAt w' w0.heap.size lv q.ls)
  w hcf hd (by rw [← hF]; exact h.env.parts q.i hi) (by omega) h.feed (fun k y => by
   rcases y with y | y | y | y
   ·omega
   ·omega
   ·omega
   ·exact (hlvk k y).2) (by omega) ?_).mono ?_
 ·intro w1 hs1 hsz1
  refine (hc w1 hs1 hsz1).mono ?_
  rintro r w' (⟨k1, k2, rfl, lv', k3, k4, k5, k6, k7, k8⟩ | ⟨k1, rfl, k2, k3⟩)
  ·exact ⟨k8, ⟨_, k2⟩, ⟨vo, _, by rw [← partsAt_lt hi]; exact k6⟩, .inl ⟨thr, x, rfl, k1, rfl, rfl, k2, lv', k3, k4, by rw [← hsz1]; exact k5, k6, k7⟩⟩
  ·have k4 : WAtN w' D f d (partsAt P q.i 13) vo (baOf q.nm) := k3.at_ (hs1.at_ h.dec (fun y => y)) (by omega)
   exact ⟨k3.mono (fun k y => .inl y), ⟨_, k2⟩, ⟨vo, _, by rw [← partsAt_lt hi]; exact k4⟩, .inr ⟨rfl, ⟨k1, k4, k3.at_ (hs1.at_ h.gz (fun y => y)) (by omega), let_step (let_step h.lets hs1 (fun _ _ y => y)) k3 (fun k hk y => by have := hlvk k hk; omega)⟩⟩⟩
 ·intro r w2 hw
  have hst := whole_step hw (.inl rfl)
  obtain ⟨henv, hrow, hfr⟩ := hany w2 hst
  obtain ⟨w1, w', vo', nm', s1, z1, s2, c1, ⟨t, y, rfl, ⟨k1, rfl, rfl, k2, lv', k3, k4, k5, k6, k7⟩, c2, c3⟩ | ⟨rfl, ⟨k0, k1, k2, k3⟩, c2, c3, c4⟩⟩ := hw.ex
  ·rw [← partsAt_lt hi] at c1
   obtain ⟨rfl, rfl⟩ := watn_inj c1 k6
   have z2 := s1.size
   have hlk : ∀ k, lv'.ownBlock = some k → k ≠ D ∧ k ≠ w.heap.size + 1 := fun k hk => by
    have := (k4.lt k hk).1
    rcases k5 k hk with y | y
    ·have := hlvk k y; omega
    ·omega
   refine .inl ⟨k1, rfl, lv', henv, ?_, c3.at_ k3 (fun y => by rcases y with y | y <;> omega), let_step k4 c3 (fun k hk y => by
    have := hlk k hk
    rcases y with y | y
    ·exact this.1 y
    ·exact this.2 y), by rw [ep]; exact c3.at_ k2 (fun y => by rcases y with y | y <;> omega), hb, by rw [eo]; exact hrow, fun y => ?_, k7, by omega, eh⟩
   ·rw [ei]
    rw [← partsAt_lt hi, partsAt_next hi] at c2
    cases t with
    | true => exact c2
    | false => exact c2
   ·obtain ⟨y1, y2, y3⟩ := ef y
    obtain ⟨f1, f2, f3, f4, f5⟩ := h.fresh y1
    exact ⟨hfr f1, f2, by rw [eo]; exact f3, y2, y3⟩
  ·exact .inr ⟨k0, rfl, lv, henv, c4.at_ k1 (fun y => by rcases y with y | y <;> omega), c4.at_ k2 (fun y => by rcases y with y | y <;> omega), let_step k3 c4 (fun k hk y => by
    have := hlvk k hk
    rcases y with y | y <;> omega), c3, hb, hrow, fun y => ⟨hfr (h.fresh y).1, (h.fresh y).2⟩, h.nolets, h.here, h.hh⟩
end Go.Proofs.YtbpahojchgpdnaaGreatDoor
namespace Go.Proofs.YtbpahojchgpdnaaGreatDoor
open Go.RowKit Go.Bel Go.Maps
def IsMark (w0 : World) (X m : Nat) (v : Value) : Prop := ∃ a b, v = .func (.func 121) #[] #[.pointer (some ⟨a, 0, none⟩), .pointer (some ⟨b, 0, none⟩)] ∧ (X < a ∧ a < w0.heap.size) ∧ (X < b ∧ b < w0.heap.size) ∧ w0.cell? ⟨a, 0, none⟩ = some (.pointer (some ⟨X, 0, none⟩)) ∧ w0.cell? ⟨b, 0, none⟩ = some (.int .i64 (m : Nat))
def IsWith (w0 : World) (X flag id : Nat) (v : Value) : Prop := ∃ a b c, v = .func (.func 123) #[] #[.pointer (some ⟨a, 0, none⟩), .pointer (some ⟨b, 0, none⟩), .pointer (some ⟨c, 0, none⟩)] ∧ (X < a ∧ a < w0.heap.size) ∧ (X < b ∧ b < w0.heap.size) ∧ (X < c ∧ c < w0.heap.size) ∧ w0.cell? ⟨a, 0, none⟩ = some (.pointer (some ⟨X, 0, none⟩)) ∧ w0.cell? ⟨b, 0, none⟩ = some (.int .i64 (flag : Nat)) ∧ w0.cell? ⟨c, 0, none⟩ = some (.func (.func id) #[.pointer (some ⟨X, 0, none⟩)] #[])
def IsPlain (X id : Nat) (v : Value) : Prop := v = .func (.func id) #[.pointer (some ⟨X, 0, none⟩)] #[]
structure GzParts (w0 : World) (X : Nat) (F : Nat → Value) : Prop where
 m0 : IsMark w0 X 31 (F 0)
 m1 : IsMark w0 X 139 (F 1)
 m2 : IsMark w0 X 8 (F 2)
 p3 : IsPlain X 80 (F 3)
 p4 : IsPlain X 81 (F 4)
 w5 : IsWith w0 X 4 83 (F 5)
 w6 : IsWith w0 X 4 81 (F 6)
 w7 : IsWith w0 X 8 84 (F 7)
 w8 : IsWith w0 X 16 85 (F 8)
 w9 : IsWith w0 X 2 86 (F 9)
 p10 : IsPlain X 87 (F 10)
 p11 : IsPlain X 88 (F 11)
 p12 : IsPlain X 89 (F 12)
theorem cf_mark (args : Array Value) (w : World) : (callFunc 121 args).run Tryz.prog w = .ok (.enter 121 args) w := by kernel_rfl
theorem cf_with (args : Array Value) (w : World) : (callFunc 123 args).run Tryz.prog w = .ok (.enter 123 args) w := by kernel_rfl
theorem cf_flags (args : Array Value) (w : World) : (callFunc 80 args).run Tryz.prog w = .ok (.enter 80 args) w := by kernel_rfl
theorem cf_pass (args : Array Value) (w : World) : (callFunc 81 args).run Tryz.prog w = .ok (.enter 81 args) w := by kernel_rfl
theorem cf_extra (args : Array Value) (w : World) : (callFunc 83 args).run Tryz.prog w = .ok (.enter 83 args) w := by kernel_rfl
theorem cf_letter (args : Array Value) (w : World) : (callFunc 84 args).run Tryz.prog w = .ok (.enter 84 args) w := by kernel_rfl
theorem cf_remark (args : Array Value) (w : World) : (callFunc 85 args).run Tryz.prog w = .ok (.enter 85 args) w := by kernel_rfl
theorem cf_headHolds (args : Array Value) (w : World) : (callFunc 86 args).run Tryz.prog w = .ok (.enter 86 args) w := by kernel_rfl
theorem cf_gbare (args : Array Value) (w : World) : (callFunc 87 args).run Tryz.prog w = .ok (.enter 87 args) w := by kernel_rfl
theorem cf_check (args : Array Value) (w : World) : (callFunc 88 args).run Tryz.prog w = .ok (.enter 88 args) w := by kernel_rfl
theorem cf_size (args : Array Value) (w : World) : (callFunc 89 args).run Tryz.prog w = .ok (.enter 89 args) w := by kernel_rfl
variable {w0 w : World} {base0 g off cap f d D X P : Nat} {B : List Nat} {most : Nat} {F : Nat → Value} {q : GQ} {lv vo : Value}
theorem GM.box (h : GM w0 w base0 g off cap f d D X P B most F q lv vo) (pl : ZPl base0 g f d D X P) {w1 : World} (hs : Step (fun _ => False) w w1) {a : Nat} {v : Value} (ha : X < a ∧ a < w0.heap.size) (hc : w0.cell? ⟨a, 0, none⟩ = some v) : w1.cell? ⟨a, 0, none⟩ = some v := by
 have h4 := pl.fd; have h5 := pl.dD; have h6 := pl.DX
 exact hs.cell (h.env.step.cell (p := ⟨a, 0, none⟩) hc (fun x => by
  have x : a = D ∨ a = d ∨ a = f ∨ a = X := x
  omega)) (fun x => x)
theorem part_of (h : GM w0 w base0 g off cap f d D X P B most F q lv vo) (pl : ZPl base0 g f d D X P) {w1 : World} (hs1 : Step (fun _ => False) w w1) {nb : Nat} {q' : GQ} {thr : Bool} {x : Nat} {r : Ending} {w' : World} (hg : GzTo nb q.p B f (.slice (fedA g off B.length) B.length cap) 0 X D d q'.fl q'.left q'.head lv q'.check q'.size (partsAt P q.i 13) vo (baOf q.nm) thr x (fun k => k = f ∨ k = X) w1 r w') (el : q'.ls = q.ls) (en : q'.nm = q.nm) :
  PartTo nb f d D X P (.slice (fedA g off B.length) B.length cap) B w0.heap.size q q' thr x lv vo w1 r w' := by
 have h4 := pl.fd; have h5 := pl.dD; have h6 := pl.DX; have h7 := pl.XP; have hb := h.big
 rcases hg with ⟨k1, k2, rfl, k3, k4, k5⟩ | hm
 ·refine .inl ⟨k1, k2, rfl, lv, k3, ?_, fun k hk => .inl hk, by rw [en]; exact k4, fun y => h.nolets (by rw [← el]; exact y), k5.mono (fun k y => y.elim .inl (fun z => .inr (.inl z)))⟩
  rw [el]
  exact let_step (let_step h.lets hs1 (fun _ _ y => y)) k5 (fun k hk y => by
   have := (h.lets.lt k hk).1
   omega)
 ·exact .inr hm
theorem c_mark (h : GM w0 w base0 g off cap f d D X P B most F q lv vo) (pl : ZPl base0 g f d D X P) {m : Nat} (hm : IsMark w0 X m (F q.i)) (x : Nat) (hx : x = if numAt B q.p 8 = m then 0 else 4) :
  ∃ caps, F q.i = .func (.func 121) #[] caps ∧ ∀ w1, Step (fun _ => False) w w1 → Calls Tryz.prog 121 (#[] ++ caps) w1 (PartTo 8 f d D X P (.slice (fedA g off B.length) B.length cap) B w0.heap.size q { q with i := q.i + 1, p := q.p + 8, head := crcWith q.head [numAt B q.p 8] } true x lv vo w1) := by
 obtain ⟨a, b, hF, ha, hb, ca, cb⟩ := hm
 have h4 := pl.fd; have h5 := pl.dD; have h6 := pl.DX; have h7 := pl.XP; have h3 := pl.bf
 refine ⟨_, hF, fun w1 hs1 => ?_⟩
 have gi := h.gin pl hs1
 refine (mark_any a b m X D f d g off cap 0 q.p q.fl q.left q.head q.check q.size lv B _ vo _ w1 gi.gz gi.dec gi.feed gi.src gi.gf gi.Xf gi.Df gi.DX gi.here gi.hh (h.box pl hs1 ha ca) (h.box pl hs1 hb cb) ⟨by omega, by omega⟩ x hx).mono ?_
 intro r w' hg
 exact part_of h pl hs1 hg rfl rfl
theorem c_flags (h : GM w0 w base0 g off cap f d D X P B most F q lv vo) (pl : ZPl base0 g f d D X P) (x : Nat) (hx : x = if numAt B q.p 8 < 32 then 0 else 4) (w1 : World) (hs1 : Step (fun _ => False) w w1) :
  Calls Tryz.prog 80 #[.pointer (some ⟨X, 0, none⟩)] w1 (PartTo 8 f d D X P (.slice (fedA g off B.length) B.length cap) B w0.heap.size q { q with i := q.i + 1, p := q.p + 8, fl := numAt B q.p 8, head := crcWith q.head [numAt B q.p 8] } true x lv vo w1) :=
 (readFlags_any X D f d g off cap 0 q.p q.fl q.left q.head q.check q.size lv B _ vo _ w1 (h.gin pl hs1) x hx).mono fun _ _ hg => part_of h pl hs1 hg rfl rfl
theorem c_pass (h : GM w0 w base0 g off cap f d D X P B most F q lv vo) (pl : ZPl base0 g f d D X P) (hl : 0 < q.left) (hm : q.left < 1000000) (i' : Nat) (w1 : World) (hs1 : Step (fun _ => False) w w1) :
  Calls Tryz.prog 81 #[.pointer (some ⟨X, 0, none⟩)] w1 (PartTo 8 f d D X P (.slice (fedA g off B.length) B.length cap) B w0.heap.size q { q with i := i', p := q.p + 8, left := q.left - 1, head := crcWith q.head [numAt B q.p 8] } (q.left == 1) 0 lv vo w1) :=
 (pass_any X D f d g off cap 0 q.p q.fl q.left q.head q.check q.size lv B _ vo _ w1 (h.gin pl hs1) hl hm _ rfl).mono fun _ _ hg => part_of h pl hs1 hg rfl rfl
theorem c_pass0 (h : GM w0 w base0 g off cap f d D X P B most F q lv vo) (pl : ZPl base0 g f d D X P) (hl : q.left = 0) (w1 : World) (hs1 : Step (fun _ => False) w w1) :
  Calls Tryz.prog 81 #[.pointer (some ⟨X, 0, none⟩)] w1 (PartTo 0 f d D X P (.slice (fedA g off B.length) B.length cap) B w0.heap.size q { q with i := q.i + 1, left := 0 } true 0 lv vo w1) :=
 (pass_none X D f d g off cap 0 q.p q.fl q.left q.head q.check q.size lv B _ vo _ w1 (h.gin pl hs1) hl).mono fun _ _ hg => part_of h pl hs1 hg rfl rfl
theorem c_extra (h : GM w0 w base0 g off cap f d D X P B most F q lv vo) (pl : ZPl base0 g f d D X P) (w1 : World) (hs1 : Step (fun _ => False) w w1) :
  Calls Tryz.prog 83 #[.pointer (some ⟨X, 0, none⟩)] w1 (PartTo 16 f d D X P (.slice (fedA g off B.length) B.length cap) B w0.heap.size q { q with i := q.i + 1, p := q.p + 16, left := numAt B q.p 16, head := crcWith q.head [numAt B q.p 16 % 256, numAt B q.p 16 / 256] } true 0 lv vo w1) :=
 (extraSize_any X D f d g off cap 0 q.p q.fl q.left q.head q.check q.size lv B _ vo _ w1 (h.gin pl hs1)).mono fun _ _ hg => part_of h pl hs1 hg rfl rfl
theorem c_remark (h : GM w0 w base0 g off cap f d D X P B most F q lv vo) (pl : ZPl base0 g f d D X P) (i' : Nat) (w1 : World) (hs1 : Step (fun _ => False) w w1) :
  Calls Tryz.prog 85 #[.pointer (some ⟨X, 0, none⟩)] w1 (PartTo 8 f d D X P (.slice (fedA g off B.length) B.length cap) B w0.heap.size q { q with i := i', p := q.p + 8, head := crcWith q.head [numAt B q.p 8] } (numAt B q.p 8 == 0) 0 lv vo w1) :=
 (remark_any X D f d g off cap 0 q.p q.fl q.left q.head q.check q.size lv B _ vo _ w1 (h.gin pl hs1) _ rfl).mono fun _ _ hg => part_of h pl hs1 hg rfl rfl
theorem c_headHolds (h : GM w0 w base0 g off cap f d D X P B most F q lv vo) (pl : ZPl base0 g f d D X P) (x : Nat) (hx : x = if numAt B q.p 16 = q.head % 65536 then 0 else 12) (w1 : World) (hs1 : Step (fun _ => False) w w1) :
  Calls Tryz.prog 86 #[.pointer (some ⟨X, 0, none⟩)] w1 (PartTo 16 f d D X P (.slice (fedA g off B.length) B.length cap) B w0.heap.size q { q with i := q.i + 1, p := q.p + 16 } true x lv vo w1) :=
 (headHolds_any X D f d g off cap 0 q.p q.fl q.left q.head q.check q.size lv B _ vo _ w1 (h.gin pl hs1) x hx).mono fun _ _ hg => part_of h pl hs1 hg rfl rfl
theorem c_check (h : GM w0 w base0 g off cap f d D X P B most F q lv vo) (pl : ZPl base0 g f d D X P) (x : Nat) (hx : x = if numAt B q.p 32 = q.check then 0 else 12) (w1 : World) (hs1 : Step (fun _ => False) w w1) :
  Calls Tryz.prog 88 #[.pointer (some ⟨X, 0, none⟩)] w1 (PartTo 32 f d D X P (.slice (fedA g off B.length) B.length cap) B w0.heap.size q { q with i := q.i + 1, p := q.p + 32 } true x lv vo w1) :=
 (checkHolds_any X D f d g off cap 0 q.p q.fl q.left q.head q.check q.size lv B _ vo _ w1 (h.gin pl hs1) x hx).mono fun _ _ hg => part_of h pl hs1 hg rfl rfl
theorem c_size (h : GM w0 w base0 g off cap f d D X P B most F q lv vo) (pl : ZPl base0 g f d D X P) (x : Nat) (hx : x = if numAt B q.p 32 = q.size then 0 else 12) (w1 : World) (hs1 : Step (fun _ => False) w w1) :
  Calls Tryz.prog 89 #[.pointer (some ⟨X, 0, none⟩)] w1 (PartTo 32 f d D X P (.slice (fedA g off B.length) B.length cap) B w0.heap.size q { q with i := q.i + 1, p := q.p + 32 } true x lv vo w1) :=
 (sizeHolds_any X D f d g off cap 0 q.p q.fl q.left q.head q.check q.size lv B _ vo _ w1 (h.gin pl hs1) x hx).mono fun _ _ hg => part_of h pl hs1 hg rfl rfl
theorem c_letter (h : GM w0 w base0 g off cap f d D X P B most F q lv vo) (pl : ZPl base0 g f d D X P) (hn : numAt B q.p 8 ≠ 0) (hl : q.ls.length ≤ 8388608) (w1 : World) (hs1 : Step (fun _ => False) w w1) :
  Calls Tryz.prog 84 #[.pointer (some ⟨X, 0, none⟩)] w1 (PartTo 8 f d D X P (.slice (fedA g off B.length) B.length cap) B w0.heap.size q { q with p := q.p + 8, head := crcWith q.head [numAt B q.p 8], ls := q.ls ++ [numAt B q.p 8] } false 0 lv vo w1) := by
 have hz := h.env.step.size
 have hz1 := hs1.size
 refine (letter_more X D f d g off cap 0 q.p q.fl q.left q.head q.check q.size w0.heap.size lv q.ls B _ vo _ w1 (h.gin pl hs1) (let_step h.lets hs1 (fun _ _ y => y)) hn hl (by omega)).mono ?_
 rintro r w' (⟨k1, k2, rfl, lv', k3, k4, k5, k6, k7⟩ | hm)
 ·exact .inl ⟨k1, k2, rfl, lv', k3, k4, k5, k6, fun y => by simp at y, k7.mono (fun k y => by
   rcases y with y | y | y
   ·exact .inl y
   ·exact .inr (.inl y)
   ·exact .inr (.inr (.inr y)))⟩
 ·exact .inr hm
theorem c_letter0 (h : GM w0 w base0 g off cap f d D X P B most F q lv vo) (pl : ZPl base0 g f d D X P) (hn : numAt B q.p 8 = 0) (hl : AllB q.ls) (w1 : World) (hs1 : Step (fun _ => False) w w1) :
  Calls Tryz.prog 84 #[.pointer (some ⟨X, 0, none⟩)] w1 (PartTo 8 f d D X P (.slice (fedA g off B.length) B.length cap) B w0.heap.size q { q with i := q.i + 1, p := q.p + 8, head := crcWith q.head [numAt B q.p 8], ls := [], nm := latinB q.ls } true 0 lv vo w1) := by
 refine (letter_end X D f d g off cap 0 q.p q.fl q.left q.head q.check q.size w0.heap.size lv q.ls B _ vo _ w1 (h.gin pl hs1) (let_step h.lets hs1 (fun _ _ y => y)) hn hl).mono ?_
 rintro r w' (⟨k1, k2, rfl, k3, k4, k5⟩ | hm)
 ·exact .inl ⟨k1, k2, rfl, .slice none 0 0, k3, World.ownsRow_nil _ _ _ _, fun k hk => (by simp [Value.ownBlock] at hk), k4, fun _ => rfl, k5.mono (fun k y => by
   rcases y with y | y | y
   ·exact .inl y
   ·exact .inr (.inl y)
   ·exact .inr (.inr (.inl y)))⟩
 ·exact .inr hm
theorem c_no (h : GM w0 w base0 g off cap f d D X P B most F q lv vo) (pl : ZPl base0 g f d D X P) {flag id : Nat} (hw : IsWith w0 X flag id (F q.i)) (hf : bits .and .i64 (q.fl : Int) (flag : Int) = 0) :
  ∃ caps, F q.i = .func (.func 123) #[] caps ∧ ∀ w1, Step (fun _ => False) w w1 → Calls Tryz.prog 123 (#[] ++ caps) w1 (PartTo 0 f d D X P (.slice (fedA g off B.length) B.length cap) B w0.heap.size q { q with i := q.i + 1 } true 0 lv vo w1) := by
 obtain ⟨a, b, c, hF, ha, hb, hc, ca, cb, cc⟩ := hw
 refine ⟨_, hF, fun w1 hs1 => ?_⟩
 have gi := h.gin pl hs1
 refine (with_no a b c X D q.fl flag q.left q.head q.check q.size lv w1 gi.gz (h.box pl hs1 ha ca) (h.box pl hs1 hb cb) hf).mono ?_
 rintro r w' ⟨rfl, hs2⟩
 have gi2 := gi.step0 hs2
 exact part_of h pl hs1 (.inl ⟨gi.here, gi2.feed, rfl, gi2.gz, gi2.dec, hs2.mono (fun _ y => y.elim)⟩) rfl rfl
theorem c_yes (h : GM w0 w base0 g off cap f d D X P B most F q lv vo) (pl : ZPl base0 g f d D X P) {flag id nb : Nat} {q' : GQ} {thr : Bool} {x : Nat} (hw : IsWith w0 X flag id (F q.i)) (hf : (bits .and .i64 (q.fl : Int) (flag : Int) == 0) = false)
  (hcf : ∀ w, (callFunc id #[.pointer (some ⟨X, 0, none⟩)]).run Tryz.prog w = .ok (.enter id #[.pointer (some ⟨X, 0, none⟩)]) w)
  (hc : ∀ w1, Step (fun _ => False) w w1 → Calls Tryz.prog id #[.pointer (some ⟨X, 0, none⟩)] w1 (PartTo nb f d D X P (.slice (fedA g off B.length) B.length cap) B w0.heap.size q q' thr x lv vo w1)) :
  ∃ caps, F q.i = .func (.func 123) #[] caps ∧ ∀ w1, Step (fun _ => False) w w1 → Calls Tryz.prog 123 (#[] ++ caps) w1 (PartTo nb f d D X P (.slice (fedA g off B.length) B.length cap) B w0.heap.size q q' thr x lv vo w1) := by
 obtain ⟨a, b, c, hF, ha, hb, hcc, ca, cb, cc⟩ := hw
 refine ⟨_, hF, fun w1 hs1 => ?_⟩
 have gi := h.gin pl hs1
 refine with_yes a b c X D q.fl flag q.left q.head q.check q.size id lv w1 _ gi.gz (h.box pl hs1 ha ca) (h.box pl hs1 hb cb) (h.box pl hs1 hcc cc) hf hcf (fun w2 hs2 => ?_)
 refine (hc w2 (hs1.trans hs2)).mono ?_
 intro r w' hp
 have hz := hs2.size
 refine ⟨?_, ?_⟩
 ·rcases hp with ⟨_, _, rfl, _⟩ | ⟨_, rfl, _⟩
  ·exact .inl ⟨_, _, rfl⟩
  ·exact .inr rfl
 ·rcases hp with ⟨k1, k2, k3, lv', k4, k5, k6, k7, k8, k9⟩ | ⟨k1, k2, k3, k4⟩
  ·exact .inl ⟨k1, k2, k3, lv', k4, k5, fun k hk => (k6 k hk).imp (fun z => z) (fun y => by omega), k7, k8, (hs2.mono (fun _ y => y.elim)).trans k9⟩
  ·exact .inr ⟨k1, k2, k3, (hs2.mono (fun _ y => y.elim)).trans k4⟩
end Go.Proofs.YtbpahojchgpdnaaGreatDoor
namespace Go.Proofs.YtbpahojchgpdnaaGreatDoor
open Go.RowKit Go.Bel Go.Maps
structure GV (B : List Nat) (q : GQ) : Prop where
 al : q.i ≤ 9 → q.p % 8 = 0 ∧ q.head = crcWith 0 (B.take (q.p / 8))
 fl : 4 ≤ q.i → q.fl < 32
 lf : q.left < 65536
 ls : q.i ≠ 7 → q.ls = []
 lb : AllB q.ls
 ll : 8 * q.ls.length ≤ q.p
 nm : q.i ≤ 7 → q.nm = []
 l6 : q.i ≤ 3 → q.left = 6
 l7 : ¬ q.fl / 8 % 2 = 1 → q.ls = []
def gzRest (B : List Nat) (most : Nat) (q : GQ) (e : Nat) (out : List Nat) (used : Nat) (name : List Nat) : Prop :=
 match q.i with
 | 0 => q.p = 0 ∧ gzAll B most e out used name
 | 1 => q.p = 8 ∧ gz1 B most e out used name
 | 2 => q.p = 16 ∧ gz2 B most e out used name
 | 3 => q.p = 24 ∧ gzFlags B most 24 e out used name
 | 4 => gzSkip B most q.fl q.p q.left e out used name
 | 5 => gzExtra B most q.fl q.p e out used name
 | 6 => gzPass B most q.fl q.p q.left e out used name
 | 7 => gzName B most q.fl q.p q.ls e out used name
 | 8 => gzRemark B most q.fl q.p q.nm e out used name
 | 9 => gzCheck B most q.fl q.p q.nm e out used name
 | 10 => gzBody B most q.p q.nm e out used name
 | 11 => q.check = crcWith 0 q.o ∧ q.size = q.o.length ∧ q.p % 8 = 0 ∧ gzTail B q.p q.o q.nm e out used name
 | 12 => q.size = q.o.length ∧ q.p % 8 = 0 ∧ gzSize B q.p q.o q.nm e out used name
 | _ => e = 0 ∧ q.p = 8 * used ∧ q.o = out ∧ name = q.nm
def gMeas (B : List Nat) (q : GQ) : Nat := (13 - q.i) + (8 * B.length - q.p) + if q.i ≤ 10 then 8 * B.length else 0
def GEnd (w0 : World) (base0 g off cap f d D X P : Nat) (B : List Nat) (most : Nat) (F : Nat → Value) (q : GQ) (e : Nat) (out : List Nat) (used : Nat) (name : List Nat) (r : Ending) (w2 : World) : Prop :=
 ∃ x : Nat, r = .returned (.int .i64 (x : Nat)) ∧ ((x = 0 ∧ ∃ q' lv' vo', GM w0 w2 base0 g off cap f d D X P B most F q' lv' vo' ∧ GV B q' ∧ q'.i ≤ 13 ∧ gzRest B most q' e out used name ∧ gMeas B q' < gMeas B q) ∨ (x ≠ 0 ∧ x = e ∧ ZFin w0 w2 base0 f d D X (.slice (fedA g off B.length) B.length cap) e out used (baOf name)))
variable {w0 w : World} {base0 g off cap f d D X P : Nat} {B : List Nat} {most : Nat} {F : Nat → Value} {q : GQ} {lv vo : Value} {e : Nat} {out : List Nat} {used : Nat} {name : List Nat}
theorem GM.fin {w2 : World} {q' : GQ} {lv' vo' : Value} (h : GM w0 w2 base0 g off cap f d D X P B most F q' lv' vo') {e used : Nat} {out name : List Nat} (he : e ≠ 0) (ho : out = q'.o) (hn : name = q'.nm) : ZFin w0 w2 base0 f d D X (.slice (fedA g off B.length) B.length cap) e out used (baOf name) := by
 subst ho hn
 exact ⟨⟨_, vo', h.dec, h.row⟩, fun x => absurd x he, h.env.step⟩
theorem gStep {q' : GQ} (h : GM w0 w base0 g off cap f d D X P B most F q lv vo) (pl : ZPl base0 g f d D X P) (hv : GV B q) (hi : q.i < 13) (nb id : Nat) (first caps : Array Value) (hF : F q.i = .func (.func id) first caps)
  (hcf : ∀ w, (callFunc id (first ++ caps)).run Tryz.prog w = .ok (.enter id (first ++ caps)) w) (thr : Bool) (x : Nat)
  (hc : ∀ w1, Step (fun _ => False) w w1 → Calls Tryz.prog id (first ++ caps) w1 (PartTo nb f d D X P (.slice (fedA g off B.length) B.length cap) B w0.heap.size q q' thr x lv vo w1))
  (ei : q'.i = if thr then q.i + 1 else q.i) (ep : q'.p = q.p + nb) (eo : q'.o = q.o) (ec : q'.check = q.check ∧ q'.size = q.size) (eh : q'.head < 4294967296) (hpos : thr = true ∨ 0 < nb)
  (hok : q.p + nb ≤ 8 * B.length → (x = 0 ∧ GV B q' ∧ gzRest B most q' e out used name) ∨ (x ≠ 0 ∧ e = x ∧ out = q.o ∧ name = q'.nm))
  (hmiss : 8 * B.length < q.p + nb → e = 3 ∧ out = q.o ∧ name = q.nm) :
  ZW f D w (GEnd w0 base0 g off cap f d D X P B most F q e out used name) := by
 refine (gRound (q' := q') h pl hi nb id first caps hF hcf thr x (fun w1 hs _ => hc w1 hs) ei ep eo (fun y => ?_) eh (fun y => hv.ls (by omega))).mono ?_
 ·have hi' : q.i ≤ 10 := by
   rw [ei] at y
   cases thr with
   | true => have y : q.i + 1 ≤ 10 := y; omega
   | false => exact y
  obtain ⟨_, _, _, f4, f5⟩ := h.fresh hi'
  exact ⟨hi', by rw [ec.1]; exact f4, by rw [ec.2]; exact f5⟩
 ·rintro r w2 (⟨k1, rfl, lv', k2⟩ | ⟨k1, rfl, lv', k2⟩)
  ·rcases hok k1 with ⟨rfl, hv', hr'⟩ | ⟨hx, rfl, rfl, rfl⟩
   ·refine ⟨0, rfl, .inl ⟨rfl, q', lv', vo, k2, hv', ?_, hr', ?_⟩⟩
    ·rw [ei]
     cases thr with
     | true => show q.i + 1 ≤ 13; omega
     | false => show q.i ≤ 13; omega
    ·unfold gMeas
     rw [ei, ep]
     have hif : ∀ a b : Nat, a ≤ b → (if b ≤ 10 then 8 * B.length else 0) ≤ (if a ≤ 10 then 8 * B.length else 0) := fun a b hab => by
      by_cases y : b ≤ 10
      ·rw [if_pos y, if_pos (by omega)]; exact Nat.le_refl _
      ·rw [if_neg y]; exact Nat.zero_le _
     have hif1 := hif q.i (q.i + 1) (by omega)
     rcases hpos with y | y
     ·subst y
      show 13 - (q.i + 1) + (8 * B.length - (q.p + nb)) + (if q.i + 1 ≤ 10 then 8 * B.length else 0) < _
      omega
     ·cases thr with
      | true => show 13 - (q.i + 1) + (8 * B.length - (q.p + nb)) + (if q.i + 1 ≤ 10 then 8 * B.length else 0) < _; omega
      | false => show 13 - q.i + (8 * B.length - (q.p + nb)) + (if q.i ≤ 10 then 8 * B.length else 0) < _; omega
   ·exact ⟨e, rfl, .inr ⟨hx, rfl, k2.fin hx eo.symm rfl⟩⟩
  ·obtain ⟨rfl, rfl, rfl⟩ := hmiss k1
   exact ⟨3, rfl, .inr ⟨by omega, rfl, k2.fin (by omega) rfl rfl⟩⟩
theorem rMark (h : GM w0 w base0 g off cap f d D X P B most F q lv vo) (pl : ZPl base0 g f d D X P) (hv : GV B q) (hB : AllB B) (hi : q.i < 3) {m : Nat} (hm : IsMark w0 X m (F q.i)) {K : Nat → List Nat → Nat → List Nat → Prop} (hr : gzMark B m q.p K e out used name)
  (hK : ∀ q' : GQ, q'.i = q.i + 1 → q'.p = q.p + 8 → K e out used name → gzRest B most q' e out used name) :
  ZW f D w (GEnd w0 base0 g off cap f d D X P B most F q e out used name) := by
 obtain ⟨caps, hF, hc⟩ := c_mark h pl hm _ rfl
 obtain ⟨a1, a2⟩ := hv.al (by omega)
 obtain ⟨_, _, ho, _⟩ := h.fresh (by omega)
 have hnm := hv.nm (by omega)
 unfold gzMark at hr
 refine gStep h pl hv (by omega) 8 _ #[] caps hF (cf_mark _) true _ hc rfl rfl rfl ⟨rfl, rfl⟩ (crcWith_lt _ _) (.inl rfl) (fun k => ?_) (fun k => ?_)
 ·rw [if_pos k] at hr
  by_cases hn : numAt B q.p 8 = m
  ·rw [if_pos hn] at hr ⊢
   refine .inl ⟨rfl, ⟨fun _ => ⟨by show (q.p + 8) % 8 = 0; omega, ?_⟩, fun y => by have y : 4 ≤ q.i + 1 := y; omega, hv.lf, fun _ => hv.ls (by omega), hv.lb, by show 8 * q.ls.length ≤ q.p + 8; have := hv.ll; omega, fun _ => hnm, fun _ => hv.l6 (by omega), fun _ => hv.ls (by omega)⟩, hK _ rfl rfl hr⟩
   show crcWith q.head [numAt B q.p 8] = crcWith 0 (B.take ((q.p + 8) / 8))
   rw [a2]
   exact crc_byte B q.p hB a1 k
  ·rw [if_neg hn] at hr ⊢
   exact .inr ⟨by omega, hr.1, by rw [ho]; exact hr.2.1, by show name = q.nm; rw [hnm]; exact hr.2.2.2⟩
 ·rw [if_neg (by omega)] at hr
  exact ⟨hr.1, by rw [ho]; exact hr.2.1, by rw [hnm]; exact hr.2.2.2⟩
theorem r3 (h : GM w0 w base0 g off cap f d D X P B most F q lv vo) (pl : ZPl base0 g f d D X P) (hP : GzParts w0 X F) (hv : GV B q) (hB : AllB B) (hi : q.i = 3) (hr : gzFlags B most q.p e out used name) :
  ZW f D w (GEnd w0 base0 g off cap f d D X P B most F q e out used name) := by
 obtain ⟨a1, a2⟩ := hv.al (by omega)
 obtain ⟨_, _, ho, _⟩ := h.fresh (by omega)
 have hnm := hv.nm (by omega)
 unfold gzFlags at hr
 refine gStep h pl hv (by omega) 8 _ #[.pointer (some ⟨X, 0, none⟩)] #[] (by rw [hi]; exact hP.p3) (cf_flags _) true _ (c_flags h pl _ rfl) rfl rfl rfl ⟨rfl, rfl⟩ (crcWith_lt _ _) (.inl rfl) (fun k => ?_) (fun k => ?_)
 ·rw [if_pos k] at hr
  by_cases hn : numAt B q.p 8 < 32
  ·rw [if_pos hn] at hr ⊢
   refine .inl ⟨rfl, ⟨fun _ => ⟨by show (q.p + 8) % 8 = 0; omega, ?_⟩, fun y => hn, hv.lf, fun _ => hv.ls (by omega), hv.lb, by show 8 * q.ls.length ≤ q.p + 8; have := hv.ll; omega, fun _ => hnm, fun y => by have y : q.i + 1 ≤ 3 := y; omega, fun _ => hv.ls (by omega)⟩, ?_⟩
   ·show crcWith q.head [numAt B q.p 8] = crcWith 0 (B.take ((q.p + 8) / 8))
    rw [a2]
    exact crc_byte B q.p hB a1 k
   ·unfold gzRest
    simp only [hi]
    rw [hv.l6 (by omega)]
    exact hr
  ·rw [if_neg hn] at hr ⊢
   exact .inr ⟨by omega, hr.1, by rw [ho]; exact hr.2.1, by show name = q.nm; rw [hnm]; exact hr.2.2.2⟩
 ·rw [if_neg (by omega)] at hr
  exact ⟨hr.1, by rw [ho]; exact hr.2.1, by rw [hnm]; exact hr.2.2.2⟩
end Go.Proofs.YtbpahojchgpdnaaGreatDoor
namespace Go.Proofs.YtbpahojchgpdnaaGreatDoor
open Go.RowKit Go.Bel Go.Maps
variable {w0 w : World} {base0 g off cap f d D X P : Nat} {B : List Nat} {most : Nat} {F : Nat → Value} {q : GQ} {lv vo : Value} {e : Nat} {out : List Nat} {used : Nat} {name : List Nat}
theorem flag_set {a k : Nat} (h : a &&& k = a / k % 2 * k) (hk : 0 < k) (hk2 : k < 4611686018427387904) (ha : a < 32) (hs : a / k % 2 = 1) : (bits .and .i64 (a : Int) (k : Int) == 0) = false := by
 rw [and_i64 a k (by omega) hk2, h, hs, beq_eq_false_iff_ne]
 omega
theorem flag_not {a k : Nat} (h : a &&& k = a / k % 2 * k) (hk2 : k < 4611686018427387904) (ha : a < 32) (hs : ¬ a / k % 2 = 1) : bits .and .i64 (a : Int) (k : Int) = 0 := by
 rw [and_i64 a k (by omega) hk2, h, show a / k % 2 = 0 by omega, Nat.zero_mul]
 rfl
theorem GV.byte (hv : GV B q) (hB : AllB B) (hi : q.i ≤ 9) (h4 : 4 ≤ q.i) (k : q.p + 8 ≤ 8 * B.length) (i' left' : Nat) (hi' : i' = q.i ∨ i' = q.i + 1) (hl : left' < 65536) (h7 : q.i ≠ 7) : GV B { q with i := i', p := q.p + 8, left := left', head := crcWith q.head [numAt B q.p 8] } := by
 obtain ⟨a1, a2⟩ := hv.al hi
 refine ⟨fun _ => ⟨by show (q.p + 8) % 8 = 0; omega, ?_⟩, fun _ => hv.fl h4, hl, fun _ => hv.ls h7, hv.lb, by show 8 * q.ls.length ≤ q.p + 8; have := hv.ll; omega, fun y => hv.nm (by have y : i' ≤ 7 := y; omega), fun y => by have y : i' ≤ 3 := y; omega, fun _ => hv.ls h7⟩
 show crcWith q.head [numAt B q.p 8] = crcWith 0 (B.take ((q.p + 8) / 8))
 rw [a2]
 exact crc_byte B q.p hB a1 k
theorem GV.skip (hv : GV B q) (hi : q.i ≤ 9) (h4 : 4 ≤ q.i) (left' : Nat) (hl : left' < 65536) (hls : q.ls = []) : GV B { q with i := q.i + 1, left := left' } :=
 ⟨fun _ => hv.al hi, fun _ => hv.fl h4, hl, fun _ => hls, hv.lb, hv.ll, fun y => hv.nm (by have y : q.i + 1 ≤ 7 := y; omega), fun y => by have y : q.i + 1 ≤ 3 := y; omega, fun _ => hls⟩
theorem r4 (h : GM w0 w base0 g off cap f d D X P B most F q lv vo) (pl : ZPl base0 g f d D X P) (hP : GzParts w0 X F) (hv : GV B q) (hB : AllB B) (hi : q.i = 4) (hr : gzSkip B most q.fl q.p q.left e out used name) :
  ZW f D w (GEnd w0 base0 g off cap f d D X P B most F q e out used name) := by
 obtain ⟨_, _, ho, _⟩ := h.fresh (by omega)
 have hnm := hv.nm (by omega)
 have hlf := hv.lf
 have hh := h.here
 unfold gzSkip at hr
 by_cases h0 : q.left = 0
 ·refine gStep h pl hv (by omega) 0 _ #[.pointer (some ⟨X, 0, none⟩)] #[] (by rw [hi]; exact hP.p4) (cf_pass _) true 0 (c_pass0 h pl h0) rfl rfl rfl ⟨rfl, rfl⟩ h.hh (.inl rfl) (fun k => ?_) (fun k => by omega)
  rw [h0, if_pos (by omega)] at hr
  refine .inl ⟨rfl, hv.skip (by omega) (by omega) 0 (by omega) (hv.ls (by omega)), ?_⟩
  unfold gzRest
  simp only [hi]
  exact hr
 ·refine gStep h pl hv (by omega) 8 _ #[.pointer (some ⟨X, 0, none⟩)] #[] (by rw [hi]; exact hP.p4) (cf_pass _) (q.left == 1) 0 (c_pass h pl (by omega) (by omega) (if (q.left == 1) = true then q.i + 1 else q.i)) rfl rfl rfl ⟨rfl, rfl⟩ (crcWith_lt _ _) (.inr (by omega)) (fun k => ?_) (fun k => ?_)
  ·refine .inl ⟨rfl, hv.byte hB (by omega) (by omega) k _ _ (by by_cases y : (q.left == 1) = true <;> simp [y]) (by omega) (by omega), ?_⟩
   by_cases h1 : q.left = 1
   ·rw [h1] at hr
    unfold gzRest
    simp only [h1, hi, beq_self_eq_true, if_true]
    rw [if_pos (by omega)] at hr
    exact hr
   ·have hb : (q.left == 1) = false := beq_eq_false_iff_ne.2 h1
    unfold gzRest
    simp only [hb, hi, Bool.false_eq_true, if_false]
    unfold gzSkip
    rw [show q.p + 8 + 8 * (q.left - 1) = q.p + 8 * q.left by omega]
    exact hr
  ·rw [if_neg (by omega)] at hr
   exact ⟨hr.1, by rw [ho]; exact hr.2.1, by rw [hnm]; exact hr.2.2.2⟩
theorem r5 (h : GM w0 w base0 g off cap f d D X P B most F q lv vo) (pl : ZPl base0 g f d D X P) (hP : GzParts w0 X F) (hv : GV B q) (hB : AllB B) (hi : q.i = 5) (hr : gzExtra B most q.fl q.p e out used name) :
  ZW f D w (GEnd w0 base0 g off cap f d D X P B most F q e out used name) := by
 obtain ⟨_, _, ho, _⟩ := h.fresh (by omega)
 have hnm := hv.nm (by omega)
 have hfl := hv.fl (by omega)
 obtain ⟨a1, a2⟩ := hv.al (by omega)
 unfold gzExtra at hr
 by_cases h0 : q.fl / 4 % 2 = 1
 ·rw [if_pos h0] at hr
  obtain ⟨caps, hF, hc⟩ := c_yes h pl (by rw [hi]; exact hP.w5) (flag_set (and_4 _ hfl) (by omega) (by omega) hfl h0) (cf_extra _) (c_extra h pl)
  refine gStep h pl hv (by omega) 16 _ #[] caps hF (cf_with _) true 0 hc rfl rfl rfl ⟨rfl, rfl⟩ (crcWith_lt _ _) (.inl rfl) (fun k => ?_) (fun k => ?_)
  ·rw [if_pos k] at hr
   refine .inl ⟨rfl, ⟨fun _ => ⟨by show (q.p + 16) % 8 = 0; omega, ?_⟩, fun _ => hfl, numAt_lt B q.p 16, fun _ => hv.ls (by omega), hv.lb, by show 8 * q.ls.length ≤ q.p + 16; have := hv.ll; omega, fun _ => hnm, fun y => by have y : q.i + 1 ≤ 3 := y; omega, fun _ => hv.ls (by omega)⟩, ?_⟩
   ·show crcWith q.head [numAt B q.p 16 % 256, numAt B q.p 16 / 256] = crcWith 0 (B.take ((q.p + 16) / 8))
    rw [a2]
    exact crc_word B q.p hB a1 k
   ·unfold gzRest
    simp only [hi]
    exact hr
  ·rw [if_neg (by omega)] at hr
   exact ⟨hr.1, by rw [ho]; exact hr.2.1, by rw [hnm]; exact hr.2.2.2⟩
 ·rw [if_neg h0] at hr
  obtain ⟨caps, hF, hc⟩ := c_no h pl (by rw [hi]; exact hP.w5) (flag_not (and_4 _ hfl) (by omega) hfl h0)
  refine gStep h pl hv (by omega) 0 _ #[] caps hF (cf_with _) true 0 hc rfl rfl rfl ⟨rfl, rfl⟩ h.hh (.inl rfl) (fun k => ?_) (fun k => by have := h.here; omega)
  refine .inl ⟨rfl, hv.skip (by omega) (by omega) q.left hv.lf (hv.ls (by omega)), ?_⟩
  unfold gzRest
  simp only [hi]
  unfold gzPass
  rw [if_neg h0]
  exact hr
theorem r6 (h : GM w0 w base0 g off cap f d D X P B most F q lv vo) (pl : ZPl base0 g f d D X P) (hP : GzParts w0 X F) (hv : GV B q) (hB : AllB B) (hi : q.i = 6) (hr : gzPass B most q.fl q.p q.left e out used name) :
  ZW f D w (GEnd w0 base0 g off cap f d D X P B most F q e out used name) := by
 obtain ⟨_, _, ho, _⟩ := h.fresh (by omega)
 have hnm := hv.nm (by omega)
 have hfl := hv.fl (by omega)
 have hlf := hv.lf
 have hls := hv.ls (by omega)
 have hh := h.here
 have hr0 := hr
 unfold gzPass at hr
 by_cases h0 : q.fl / 4 % 2 = 1
 ·rw [if_pos h0] at hr
  have hset := flag_set (and_4 _ hfl) (by omega) (by omega) hfl h0
  by_cases hl : q.left = 0
  ·obtain ⟨caps, hF, hc⟩ := c_yes h pl (by rw [hi]; exact hP.w6) hset (cf_pass _) (c_pass0 h pl hl)
   refine gStep h pl hv (by omega) 0 _ #[] caps hF (cf_with _) true 0 hc rfl rfl rfl ⟨rfl, rfl⟩ h.hh (.inl rfl) (fun k => ?_) (fun k => by omega)
   rw [hl, if_pos (by omega)] at hr
   refine .inl ⟨rfl, hv.skip (by omega) (by omega) 0 (by omega) hls, ?_⟩
   unfold gzRest
   simp only [hi]
   rw [hls]
   exact hr
  ·obtain ⟨caps, hF, hc⟩ := c_yes h pl (by rw [hi]; exact hP.w6) hset (cf_pass _) (c_pass h pl (by omega) (by omega) (if (q.left == 1) = true then q.i + 1 else q.i))
   refine gStep h pl hv (by omega) 8 _ #[] caps hF (cf_with _) (q.left == 1) 0 hc rfl rfl rfl ⟨rfl, rfl⟩ (crcWith_lt _ _) (.inr (by omega)) (fun k => ?_) (fun k => ?_)
   ·refine .inl ⟨rfl, hv.byte hB (by omega) (by omega) k _ _ (by by_cases y : (q.left == 1) = true <;> simp [y]) (by omega) (by omega), ?_⟩
    by_cases h1 : q.left = 1
    ·rw [h1] at hr
     unfold gzRest
     simp only [h1, hi, beq_self_eq_true, if_true]
     rw [if_pos (by omega)] at hr
     rw [hls]
     exact hr
    ·have hb : (q.left == 1) = false := beq_eq_false_iff_ne.2 h1
     unfold gzRest
     simp only [hb, hi, Bool.false_eq_true, if_false]
     unfold gzPass
     rw [if_pos h0, show q.p + 8 + 8 * (q.left - 1) = q.p + 8 * q.left by omega]
     exact hr
   ·rw [if_neg (by omega)] at hr
    exact ⟨hr.1, by rw [ho]; exact hr.2.1, by rw [hnm]; exact hr.2.2.2⟩
 ·rw [if_neg h0] at hr
  obtain ⟨caps, hF, hc⟩ := c_no h pl (by rw [hi]; exact hP.w6) (flag_not (and_4 _ hfl) (by omega) hfl h0)
  refine gStep h pl hv (by omega) 0 _ #[] caps hF (cf_with _) true 0 hc rfl rfl rfl ⟨rfl, rfl⟩ h.hh (.inl rfl) (fun k => ?_) (fun k => by omega)
  refine .inl ⟨rfl, hv.skip (by omega) (by omega) q.left hv.lf hls, ?_⟩
  unfold gzRest
  simp only [hi]
  rw [hls]
  exact hr
theorem r7 (h : GM w0 w base0 g off cap f d D X P B most F q lv vo) (pl : ZPl base0 g f d D X P) (hP : GzParts w0 X F) (hv : GV B q) (hB : AllB B) (hL : B.length ≤ 8388608) (hi : q.i = 7) (hr : gzName B most q.fl q.p q.ls e out used name) :
  ZW f D w (GEnd w0 base0 g off cap f d D X P B most F q e out used name) := by
 obtain ⟨_, _, ho, _⟩ := h.fresh (by omega)
 have hnm := hv.nm (by omega)
 have hfl := hv.fl (by omega)
 have hll := hv.ll
 have hh := h.here
 obtain ⟨a1, a2⟩ := hv.al (by omega)
 unfold gzName at hr
 by_cases h0 : q.fl / 8 % 2 = 1
 ·rw [if_pos h0] at hr
  have hset := flag_set (and_8 _ hfl) (by omega) (by omega) hfl h0
  obtain ⟨l, ok, q1, ht, hr⟩ := hr
  have hmiss : 8 * B.length < q.p + 8 → e = 3 ∧ out = q.o ∧ name = q.nm := fun k => by
   rcases ht with ⟨_, h⟩ | ⟨_, h, hz⟩ | ⟨_, l2, _, _, h, hz, ht2⟩
   ·rw [if_neg (by simp)] at hr
    exact ⟨hr.1, by rw [ho]; exact hr.2.1, by rw [hnm]; exact hr.2.2.2⟩
   ·omega
   ·omega
  have hcrc : q.p + 8 ≤ 8 * B.length → (q.p + 8) % 8 = 0 ∧ crcWith q.head [numAt B q.p 8] = crcWith 0 (B.take ((q.p + 8) / 8)) := fun k => ⟨by omega, by rw [a2]; exact crc_byte B q.p hB a1 k⟩
  by_cases hn : numAt B q.p 8 = 0
  ·obtain ⟨caps, hF, hc⟩ := c_yes h pl (by rw [hi]; exact hP.w7) hset (cf_letter _) (c_letter0 h pl hn hv.lb)
   refine gStep h pl hv (by omega) 8 _ #[] caps hF (cf_with _) true 0 hc rfl rfl rfl ⟨rfl, rfl⟩ (crcWith_lt _ _) (.inl rfl) (fun k => ?_) hmiss
   refine .inl ⟨rfl, ⟨fun _ => hcrc k, fun _ => hfl, hv.lf, fun _ => rfl, fun y hy => by simp at hy, by show 8 * 0 ≤ q.p + 8; omega, fun y => by have y : q.i + 1 ≤ 7 := y; omega, fun y => by have y : q.i + 1 ≤ 3 := y; omega, fun _ => rfl⟩, ?_⟩
   unfold gzRest
   simp only [hi]
   rcases ht with ⟨_, h⟩ | ⟨_, h, hz⟩ | ⟨_, l2, _, _, h, hz, ht2⟩
   ·omega
   ·rw [if_pos rfl, List.append_nil] at hr
    exact hr
   ·exact absurd hn hz
  ·obtain ⟨caps, hF, hc⟩ := c_yes h pl (by rw [hi]; exact hP.w7) hset (cf_letter _) (c_letter h pl hn (by omega))
   refine gStep h pl hv (by omega) 8 _ #[] caps hF (cf_with _) false 0 hc rfl rfl rfl ⟨rfl, rfl⟩ (crcWith_lt _ _) (.inr (by omega)) (fun k => ?_) hmiss
   refine .inl ⟨rfl, ⟨fun _ => hcrc k, fun _ => hfl, hv.lf, fun y => absurd hi y, hv.lb.append (fun y hy => by simp at hy; rw [hy]; exact numAt_lt B q.p 8), by show 8 * (q.ls ++ [numAt B q.p 8]).length ≤ q.p + 8; rw [List.length_append]; simp; omega, fun _ => hnm, fun y => by have y : q.i ≤ 3 := y; omega, fun y => absurd h0 y⟩, ?_⟩
   unfold gzRest
   simp only [hi]
   unfold gzName
   rw [if_pos h0]
   rcases ht with ⟨_, h⟩ | ⟨_, h, hz⟩ | ⟨_, l2, _, _, h, hz, ht2⟩
   ·omega
   ·exact absurd hz hn
   ·refine ⟨l2, ok, q1, ht2, ?_⟩
    rw [List.append_assoc]
    exact hr
 ·rw [if_neg h0] at hr
  obtain ⟨caps, hF, hc⟩ := c_no h pl (by rw [hi]; exact hP.w7) (flag_not (and_8 _ hfl) (by omega) hfl h0)
  refine gStep h pl hv (by omega) 0 _ #[] caps hF (cf_with _) true 0 hc rfl rfl rfl ⟨rfl, rfl⟩ h.hh (.inl rfl) (fun k => ?_) (fun k => by omega)
  refine .inl ⟨rfl, hv.skip (by omega) (by omega) q.left hv.lf (hv.l7 h0), ?_⟩
  unfold gzRest
  simp only [hi]
  rw [hnm]
  exact hr
theorem r8 (h : GM w0 w base0 g off cap f d D X P B most F q lv vo) (pl : ZPl base0 g f d D X P) (hP : GzParts w0 X F) (hv : GV B q) (hB : AllB B) (hi : q.i = 8) (hr : gzRemark B most q.fl q.p q.nm e out used name) :
  ZW f D w (GEnd w0 base0 g off cap f d D X P B most F q e out used name) := by
 obtain ⟨_, _, ho, _⟩ := h.fresh (by omega)
 have hfl := hv.fl (by omega)
 have hls := hv.ls (by omega)
 have hh := h.here
 obtain ⟨a1, a2⟩ := hv.al (by omega)
 unfold gzRemark at hr
 by_cases h0 : q.fl / 16 % 2 = 1
 ·rw [if_pos h0] at hr
  have hset := flag_set (and_16 _ hfl) (by omega) (by omega) hfl h0
  obtain ⟨l, ok, q1, ht, hr⟩ := hr
  obtain ⟨caps, hF, hc⟩ := c_yes h pl (by rw [hi]; exact hP.w8) hset (cf_remark _) (c_remark h pl (if (numAt B q.p 8 == 0) = true then q.i + 1 else q.i))
  refine gStep h pl hv (by omega) 8 _ #[] caps hF (cf_with _) (numAt B q.p 8 == 0) 0 hc rfl rfl rfl ⟨rfl, rfl⟩ (crcWith_lt _ _) (.inr (by omega)) (fun k => ?_) (fun k => ?_)
  ·refine .inl ⟨rfl, hv.byte hB (by omega) (by omega) k _ q.left (by by_cases y : (numAt B q.p 8 == 0) = true <;> simp [y]) hv.lf (by omega), ?_⟩
   rcases ht with ⟨_, h⟩ | ⟨_, h, hz⟩ | ⟨_, l2, _, _, h, hz, ht2⟩
   ·omega
   ·unfold gzRest
    simp only [hz, hi, beq_self_eq_true, if_true]
    exact hr
   ·have hb : (numAt B q.p 8 == 0) = false := beq_eq_false_iff_ne.2 hz
    unfold gzRest
    simp only [hb, hi, Bool.false_eq_true, if_false]
    unfold gzRemark
    rw [if_pos h0]
    exact ⟨l2, ok, q1, ht2, hr⟩
  ·rcases ht with ⟨_, h⟩ | ⟨_, h, hz⟩ | ⟨_, l2, _, _, h, hz, ht2⟩
   ·rw [if_neg (by simp)] at hr
    exact ⟨hr.1, by rw [ho]; exact hr.2.1, hr.2.2.2⟩
   ·omega
   ·omega
 ·rw [if_neg h0] at hr
  obtain ⟨caps, hF, hc⟩ := c_no h pl (by rw [hi]; exact hP.w8) (flag_not (and_16 _ hfl) (by omega) hfl h0)
  refine gStep h pl hv (by omega) 0 _ #[] caps hF (cf_with _) true 0 hc rfl rfl rfl ⟨rfl, rfl⟩ h.hh (.inl rfl) (fun k => ?_) (fun k => by omega)
  refine .inl ⟨rfl, hv.skip (by omega) (by omega) q.left hv.lf hls, ?_⟩
  unfold gzRest
  simp only [hi]
  exact hr
theorem GV.behind (hv : GV B q) (h4 : 8 ≤ q.i) (nb i' : Nat) (hi' : 10 ≤ i') : GV B { q with i := i', p := q.p + nb } :=
 ⟨fun y => by have y : i' ≤ 9 := y; omega, fun _ => hv.fl (by omega), hv.lf, fun _ => hv.ls (by omega), hv.lb, by show 8 * q.ls.length ≤ q.p + nb; have := hv.ll; omega, fun y => by have y : i' ≤ 7 := y; omega, fun y => by have y : i' ≤ 3 := y; omega, fun _ => hv.ls (by omega)⟩
theorem r9 (h : GM w0 w base0 g off cap f d D X P B most F q lv vo) (pl : ZPl base0 g f d D X P) (hP : GzParts w0 X F) (hv : GV B q) (hi : q.i = 9) (hr : gzCheck B most q.fl q.p q.nm e out used name) :
  ZW f D w (GEnd w0 base0 g off cap f d D X P B most F q e out used name) := by
 obtain ⟨_, _, ho, _⟩ := h.fresh (by omega)
 have hfl := hv.fl (by omega)
 have hh := h.here
 obtain ⟨a1, a2⟩ := hv.al (by omega)
 unfold gzCheck at hr
 by_cases h0 : q.fl / 2 % 2 = 1
 ·rw [if_pos h0] at hr
  have hset := flag_set (and_2 _ hfl) (by omega) (by omega) hfl h0
  obtain ⟨caps, hF, hc⟩ := c_yes h pl (by rw [hi]; exact hP.w9) hset (cf_headHolds _) (c_headHolds h pl _ rfl)
  refine gStep h pl hv (by omega) 16 _ #[] caps hF (cf_with _) true _ hc rfl rfl rfl ⟨rfl, rfl⟩ h.hh (.inl rfl) (fun k => ?_) (fun k => ?_)
  ·rw [if_pos k, ← a2] at hr
   by_cases hn : numAt B q.p 16 = q.head % 65536
   ·rw [if_pos hn] at hr ⊢
    refine .inl ⟨rfl, hv.behind (by omega) 16 _ (by omega), ?_⟩
    unfold gzRest
    simp only [hi]
    exact hr
   ·rw [if_neg hn] at hr ⊢
    exact .inr ⟨by omega, hr.1, by rw [ho]; exact hr.2.1, hr.2.2.2⟩
  ·rw [if_neg (by omega)] at hr
   exact ⟨hr.1, by rw [ho]; exact hr.2.1, hr.2.2.2⟩
 ·rw [if_neg h0] at hr
  obtain ⟨caps, hF, hc⟩ := c_no h pl (by rw [hi]; exact hP.w9) (flag_not (and_2 _ hfl) (by omega) hfl h0)
  refine gStep h pl hv (by omega) 0 _ #[] caps hF (cf_with _) true 0 hc rfl rfl rfl ⟨rfl, rfl⟩ h.hh (.inl rfl) (fun k => ?_) (fun k => by omega)
  refine .inl ⟨rfl, hv.behind (by omega) 0 _ (by omega), ?_⟩
  unfold gzRest
  simp only [hi]
  exact hr
theorem r11 (h : GM w0 w base0 g off cap f d D X P B most F q lv vo) (pl : ZPl base0 g f d D X P) (hP : GzParts w0 X F) (hv : GV B q) (hi : q.i = 11) (hck : q.check = crcWith 0 q.o) (hsz : q.size = q.o.length) (h8 : q.p % 8 = 0) (hr : gzTail B q.p q.o q.nm e out used name) :
  ZW f D w (GEnd w0 base0 g off cap f d D X P B most F q e out used name) := by
 unfold gzTail at hr
 refine gStep h pl hv (by omega) 32 _ #[.pointer (some ⟨X, 0, none⟩)] #[] (by rw [hi]; exact hP.p11) (cf_check _) true _ (c_check h pl _ rfl) rfl rfl rfl ⟨rfl, rfl⟩ h.hh (.inl rfl) (fun k => ?_) (fun k => ?_)
 ·rw [if_pos k, ← hck] at hr
  by_cases hn : numAt B q.p 32 = q.check
  ·rw [if_pos hn] at hr ⊢
   refine .inl ⟨rfl, hv.behind (by omega) 32 _ (by omega), ?_⟩
   unfold gzRest
   simp only [hi]
   exact ⟨hsz, by omega, hr⟩
  ·rw [if_neg hn] at hr ⊢
   exact .inr ⟨by omega, hr.1, hr.2.1, hr.2.2.2⟩
 ·rw [if_neg (by omega)] at hr
  exact ⟨hr.1, hr.2.1, hr.2.2.2⟩
theorem r12 (h : GM w0 w base0 g off cap f d D X P B most F q lv vo) (pl : ZPl base0 g f d D X P) (hP : GzParts w0 X F) (hv : GV B q) (hi : q.i = 12) (hsz : q.size = q.o.length) (h8 : q.p % 8 = 0) (hr : gzSize B q.p q.o q.nm e out used name) :
  ZW f D w (GEnd w0 base0 g off cap f d D X P B most F q e out used name) := by
 obtain ⟨h1, h2, hr⟩ := hr
 refine gStep h pl hv (by omega) 32 _ #[.pointer (some ⟨X, 0, none⟩)] #[] (by rw [hi]; exact hP.p12) (cf_size _) true _ (c_size h pl _ rfl) rfl rfl rfl ⟨rfl, rfl⟩ h.hh (.inl rfl) (fun k => ?_) (fun k => ?_)
 ·rw [if_pos k, ← hsz] at hr
  by_cases hn : numAt B q.p 32 = q.size
  ·rw [if_pos hn] at hr ⊢
   refine .inl ⟨rfl, hv.behind (by omega) 32 _ (by omega), ?_⟩
   unfold gzRest
   simp only [hi]
   exact ⟨hr.1, by rw [hr.2]; omega, h1.symm, h2⟩
  ·rw [if_neg hn] at hr ⊢
   exact .inr ⟨by omega, hr.1, h1, h2⟩
 ·rw [if_neg (by omega)] at hr
  exact ⟨hr.1, h1, h2⟩
end Go.Proofs.YtbpahojchgpdnaaGreatDoor
namespace Go.Proofs.YtbpahojchgpdnaaGreatDoor
open Go.RowKit Go.Bel Go.Maps
variable {w0 w : World} {base0 g off cap f d D X P : Nat} {B : List Nat} {most : Nat} {F : Nat → Value} {q : GQ} {lv vo : Value} {e : Nat} {out : List Nat} {used : Nat} {name : List Nat}
theorem r10 (h : GM w0 w base0 g off cap f d D X P B most F q lv vo) (pl : ZPl base0 g f d D X P) (hP : GzParts w0 X F) (hv : GV B q) (hi : q.i = 10) (hmost : most ≤ 1048576) (hr : gzBody B most q.p q.nm e out used name) :
  ZW f D w (GEnd w0 base0 g off cap f d D X P B most F q e out used name) := by
 have h1 := pl.b4; have h2 := pl.gb; have h3 := pl.bf; have h4 := pl.fd; have h5 := pl.dD; have h6 := pl.DX; have h7 := pl.XP
 have hb := h.big
 have hz := h.env.step.size
 have hp := h.here
 have hlv := h.nolets (hv.ls (by omega))
 have hls := hv.ls (by omega)
 obtain ⟨n, e1, o1, q1, hrun, hall⟩ := hr
 obtain ⟨hfr, hvo, ho, hck, hsz⟩ := h.fresh (by omega)
 obtain ⟨hob, hq8, hol⟩ := gAt_run hrun
 have hdec := h.dec
 rw [hvo] at hdec
 have hgz := h.gz
 rw [hsz] at hgz
 refine (wwhole_part D f d P q.i 2 q.p 87 #[.pointer (some ⟨X, 0, none⟩)] #[] (.slice (fedA g off B.length) B.length cap) vo 0 (baOf q.nm) (fun k => k = D ∨ k = d ∨ k = f ∨ k = X) (fun thr x w' => thr = (e1 == 0) ∧ x = e1 ∧ ∃ v', WAtN w' D f d (partsAt P q.i 13) v' (baOf q.nm) ∧ Taken w' (w.heap.size + 3) v' o1 ∧ GzAt w' X D q.fl q.left q.head lv (crcWith q.check o1) o1.length ∧ ∃ q' : Nat, FeedAt w' f (.slice (fedA g off B.length) B.length cap) q' 0 ∧ (e1 = 0 → q' = q1 ∧ q1 ≤ 8 * B.length)) (fun _ => False) w (cf_gbare _) (by have h9 := h.dec; rw [hi] at h9 ⊢; exact h9) (by rw [hi]; rw [← hP.p10]; exact h.env.parts 10 (by omega)) (by omega) h.feed (fun k x => by rcases x with x | x | x | x <;> omega) (by omega) ?_).mono ?_
 ·intro w1 hs1 hsz1
  have hH := holdsG_at (d := d) (base := w1.heap.size) (most := most) (h.env.src.step hs1 (fun x => x)) (h.env.order.step hs1 (fun _ _ x => x)) hmost (by omega) (by omega) (by omega) (by omega) (Nat.le_refl _) hp (hs1.at_ h.feed (fun x => x)) (hs1.at_ hfr (fun x => x))
  refine (gzBare_any X D d f w1.heap.size g off cap 0 n e1 q.fl q.left q.head q.check lv _ (baOf q.nm) B _ o1 q1 w1 (hs1.at_ hgz (fun x => x)) (hs1.at_ hdec (fun x => x)) (by omega) (by omega) (by omega) (by omega) hH hrun rfl hob (by omega) (by omega) ⟨by omega, by omega, by omega⟩).mono ?_
  rintro r w' ⟨rfl, v', hbp, hgz'⟩
  obtain ⟨q', hq', hq2⟩ := hbp.feed
  have hd' := hbp.dec
  refine ⟨hbp.step, ⟨q', hq'⟩, ⟨v', baOf q.nm, ?_⟩, .inl ⟨_, _, rfl, rfl, rfl, v', hd', by rw [← hsz1]; exact hbp.row, hgz', q', hq', hq2⟩⟩
  rw [hi] at hd' ⊢
  exact hd'
 ·intro r w2 hw
  have hst := whole_step hw (.inr (.inr (.inl rfl)))
  have henv : WEnv w0 w2 D d f X g off P B 13 F := h.env.go (base0 := base0) hst (fun k x => by
   rcases x with x | (x | x | x | x) | x
   ·exact ⟨by omega, by omega, fun _ => .inl x⟩
   ·exact ⟨by omega, by omega, fun _ => .inl x⟩
   ·exact ⟨by omega, by omega, fun _ => .inr (.inl x)⟩
   ·exact ⟨by omega, by omega, fun _ => .inr (.inr (.inl x))⟩
   ·exact ⟨by omega, by omega, fun _ => .inr (.inr (.inr x))⟩
   ·exact ⟨by omega, by omega, fun y => by omega⟩) h2 h1
  obtain ⟨w1, w', vo', nm', hs1, hsz1, hs2, q5, ⟨thr, x, rfl, ⟨rfl, rfl, v', k1, k2, k3, q', k4, k5⟩, q6, q3⟩ | ⟨_, hf, _⟩⟩ := hw.ex
  ·have q5' : WAtN w' D f d (partsAt P q.i 13) vo' nm' := by rw [hi] at q5 ⊢; exact q5
   obtain ⟨rfl, rfl⟩ := watn_inj q5' k1
   have hz2 : GzAt w2 X D q.fl q.left q.head lv (crcWith q.check o1) o1.length := q3.at_ k3 (fun x => by rcases x with x | x <;> omega)
   have hrow : Taken w2 base0 vo' o1 := (taken_step k2 q3 (fun k hk x => by
    have := (k2.lt k hk).1
    rcases x with x | x <;> omega)).mono (by omega)
   have hf2 : FeedAt w2 f (.slice (fedA g off B.length) B.length cap) q' 0 := q3.at_ k4 (fun x => by rcases x with x | x <;> omega)
   by_cases he : x = 0
   ·subst he
    rw [if_pos rfl] at hall
    obtain ⟨rfl, hq⟩ := k5 rfl
    have q7 : WAtN w2 D f d (partsAt P 11 13) vo' (baOf q.nm) := by rw [hi] at q6; exact q6
    refine ⟨0, rfl, .inl ⟨rfl, { q with i := 11, p := q', check := crcWith q.check o1, size := o1.length, o := o1 }, lv, vo', ⟨henv, q7, hz2, ?_, hf2, hb, hrow, fun y => by have y : 11 ≤ 10 := y; omega, h.nolets, hq, h.hh⟩, ⟨fun y => by have y : 11 ≤ 9 := y; omega, fun _ => hv.fl (by omega), hv.lf, fun _ => hls, hv.lb, by show 8 * q.ls.length ≤ q'; rw [hls]; simp, fun y => by have y : 11 ≤ 7 := y; omega, fun y => by have y : 11 ≤ 3 := y; omega, fun _ => hls⟩, by show 11 ≤ 13; omega, ?_, ?_⟩⟩
    ·show LetAt w2 w0.heap.size lv q.ls
     rw [hlv, hls]
     exact World.ownsRow_nil _ _ _ _
    ·show _ ∧ _ ∧ _ ∧ _
     exact ⟨by show crcWith q.check o1 = crcWith 0 o1; rw [hck], rfl, hq8, hall⟩
    ·unfold gMeas
     rw [hi]
     show 13 - 11 + (8 * B.length - q') + 0 < 13 - 10 + (8 * B.length - q.p) + 8 * B.length
     omega
   ·rw [if_neg he] at hall
    obtain ⟨rfl, rfl, rfl, rfl⟩ := hall
    exact ⟨e, rfl, .inr ⟨he, rfl, ⟨_, vo', q6, hrow⟩, fun x => absurd x he, henv.step⟩⟩
  ·exact hf.elim
theorem gzRun_any (h : GM w0 w base0 g off cap f d D X P B most F q lv vo) (pl : ZPl base0 g f d D X P) (hP : GzParts w0 X F) (hv : GV B q) (hB : AllB B) (hL : B.length ≤ 8388608) (hmost : most ≤ 1048576) (hi0 : q.i ≤ 13) (hr : gzRest B most q e out used name) :
  Calls Tryz.prog 90 #[.pointer (some ⟨D, 0, none⟩)] w fun r w' => r = .returned (.int .i64 (e : Nat)) ∧ ZFin w0 w' base0 f d D X (.slice (fedA g off B.length) B.length cap) e out used (baOf name) := by
 refine (wrun_loop D f (fun k wr => ∃ q lv vo, gMeas B q ≤ k ∧ GM w0 wr base0 g off cap f d D X P B most F q lv vo ∧ GV B q ∧ q.i ≤ 13 ∧ gzRest B most q e out used name) (fun x wr => x = e ∧ ZFin w0 wr base0 f d D X (.slice (fedA g off B.length) B.length cap) e out used (baOf name)) (gMeas B q) w ⟨q, lv, vo, Nat.le_refl _, h, hv, hi0, hr⟩ ?_).mono ?_
 ·rintro k wr ⟨q, lv, vo, hk, hm, hv, hi, hr⟩
  have hround : q.i < 13 → ZW f D wr (GEnd w0 base0 g off cap f d D X P B most F q e out used name) := fun hlt => by
   have hcase : q.i = 0 ∨ q.i = 1 ∨ q.i = 2 ∨ q.i = 3 ∨ q.i = 4 ∨ q.i = 5 ∨ q.i = 6 ∨ q.i = 7 ∨ q.i = 8 ∨ q.i = 9 ∨ q.i = 10 ∨ q.i = 11 ∨ q.i = 12 := by omega
   unfold gzRest at hr
   rcases hcase with y | y | y | y | y | y | y | y | y | y | y | y | y <;> simp only [y] at hr
   ·refine rMark hm pl hv hB (by omega) (by rw [y]; exact hP.m0) (by rw [hr.1]; exact hr.2) (fun q' e1 e2 hk => ?_)
    unfold gzRest
    simp only [e1, y]
    exact ⟨by omega, hk⟩
   ·refine rMark hm pl hv hB (by omega) (by rw [y]; exact hP.m1) (by rw [hr.1]; exact hr.2) (fun q' e1 e2 hk => ?_)
    unfold gzRest
    simp only [e1, y]
    exact ⟨by omega, hk⟩
   ·refine rMark hm pl hv hB (by omega) (by rw [y]; exact hP.m2) (by rw [hr.1]; exact hr.2) (fun q' e1 e2 hk => ?_)
    unfold gzRest
    simp only [e1, y]
    exact ⟨by omega, hk⟩
   ·exact r3 hm pl hP hv hB y (by rw [hr.1]; exact hr.2)
   ·exact r4 hm pl hP hv hB y hr
   ·exact r5 hm pl hP hv hB y hr
   ·exact r6 hm pl hP hv hB y hr
   ·exact r7 hm pl hP hv hB hL y hr
   ·exact r8 hm pl hP hv hB y hr
   ·exact r9 hm pl hP hv y hr
   ·exact r10 hm pl hP hv y hmost hr
   ·exact r11 hm pl hP hv y hr.1 hr.2.1 hr.2.2.1 hr.2.2.2
   ·exact r12 hm pl hP hv y hr.1 hr.2.1 hr.2.2
  have k2 : wr.cell? ⟨D, 2, none⟩ = some (partsAt P q.i 13) := blk_cell hm.dec 2 _ rfl
  have k0 : wr.cell? ⟨D, 0, none⟩ = some (.pointer (some ⟨f, 0, none⟩)) := blk_cell hm.dec 0 _ rfl
  by_cases hlt : q.i < 13
  ·refine ⟨some ⟨P, q.i, none⟩, 13 - q.i, 13 - q.i, by rw [k2]; unfold partsAt; rw [if_pos hlt]; rfl, k0, fun x => by omega, fun _ => ?_⟩
   refine (hround hlt).mono ?_
   rintro r w' ⟨x, rfl, ⟨hx, q', lv', vo', hm', hv', hi', hr', hme⟩ | ⟨hx, rfl, hf⟩⟩
   ·exact ⟨x, rfl, .inl ⟨hx, gMeas B q', by omega, q', lv', vo', Nat.le_refl _, hm', hv', hi', hr'⟩⟩
   ·exact ⟨x, rfl, .inr ⟨hx, rfl, hf⟩⟩
  ·have h13 : q.i = 13 := by omega
   unfold gzRest at hr
   simp only [h13] at hr
   obtain ⟨rfl, h8, rfl, rfl⟩ := hr
   refine ⟨some ⟨P, 12, none⟩, 0, 0, by rw [k2, h13]; rfl, k0, fun _ => ⟨rfl, ⟨_, vo, hm.dec, hm.row⟩, fun _ => by rw [← h8]; exact hm.feed, hm.env.step⟩, fun x => absurd rfl x⟩
 ·rintro r w' ⟨x, rfl, rfl, hf⟩
  exact ⟨rfl, hf⟩
end Go.Proofs.YtbpahojchgpdnaaGreatDoor
namespace Go.Proofs.YtbpahojchgpdnaaGreatDoor
open Go.RowKit Go.Bel Go.Maps
theorem IsMark.step0 {w w' : World} {X m : Nat} {v : Value} (h : IsMark w X m v) (hs : Step (fun _ => False) w w') : IsMark w' X m v := by
 obtain ⟨a, b, h1, h2, h3, h4, h5⟩ := h
 have hz := hs.size
 exact ⟨a, b, h1, ⟨h2.1, by omega⟩, ⟨h3.1, by omega⟩, hs.cell h4 (fun x => x), hs.cell h5 (fun x => x)⟩
theorem IsWith.step0 {w w' : World} {X flag id : Nat} {v : Value} (h : IsWith w X flag id v) (hs : Step (fun _ => False) w w') : IsWith w' X flag id v := by
 obtain ⟨a, b, c, h1, h2, h3, h4, h5, h6, h7⟩ := h
 have hz := hs.size
 exact ⟨a, b, c, h1, ⟨h2.1, by omega⟩, ⟨h3.1, by omega⟩, ⟨h4.1, by omega⟩, hs.cell h5 (fun x => x), hs.cell h6 (fun x => x), hs.cell h7 (fun x => x)⟩
theorem GzParts.far {w w' : World} {X : Nat} {F : Nat → Value} {S : Nat → Prop} (h : GzParts w X F) (hs : Step S w w') (hS : ∀ k, X < k → ¬ S k) : GzParts w' X F := by
 have hz := hs.size
 have fm : ∀ m v, IsMark w X m v → IsMark w' X m v := fun m v ⟨a, b, h1, h2, h3, h4, h5⟩ => ⟨a, b, h1, ⟨h2.1, by omega⟩, ⟨h3.1, by omega⟩, hs.cell (p := ⟨a, 0, none⟩) h4 (hS a h2.1), hs.cell (p := ⟨b, 0, none⟩) h5 (hS b h3.1)⟩
 have fw : ∀ fl id v, IsWith w X fl id v → IsWith w' X fl id v := fun fl id v ⟨a, b, c, h1, h2, h3, h4, h5, h6, h7⟩ => ⟨a, b, c, h1, ⟨h2.1, by omega⟩, ⟨h3.1, by omega⟩, ⟨h4.1, by omega⟩, hs.cell (p := ⟨a, 0, none⟩) h5 (hS a h2.1), hs.cell (p := ⟨b, 0, none⟩) h6 (hS b h3.1), hs.cell (p := ⟨c, 0, none⟩) h7 (hS c h4.1)⟩
 exact ⟨fm _ _ h.m0, fm _ _ h.m1, fm _ _ h.m2, h.p3, h.p4, fw _ _ _ h.w5, fw _ _ _ h.w6, fw _ _ _ h.w7, fw _ _ _ h.w8, fw _ _ _ h.w9, h.p10, h.p11, h.p12⟩
def markV (a b : Nat) : Value := .func (.func 121) #[] #[.pointer (some ⟨a, 0, none⟩), .pointer (some ⟨b, 0, none⟩)]
def withV (a b c : Nat) : Value := .func (.func 123) #[] #[.pointer (some ⟨a, 0, none⟩), .pointer (some ⟨b, 0, none⟩), .pointer (some ⟨c, 0, none⟩)]
def plainV (X id : Nat) : Value := .func (.func id) #[.pointer (some ⟨X, 0, none⟩)] #[]
theorem mark_new (X m : Nat) (w : World) (hX : X < w.heap.size) :
  Calls Tryz.prog 79 #[.pointer (some ⟨X, 0, none⟩), .int .i64 (m : Nat)] w fun r w' => ∃ a b, r = .returned (.func (.func 121) #[] #[.pointer (some ⟨a, 0, none⟩), .pointer (some ⟨b, 0, none⟩)]) ∧ Step (fun _ => False) w w' ∧ IsMark w' X m (markV a b) := by
 have hmf : ∀ (fn : Fn) (first cap : Array Value) (w : World), (Instr.makeFunc fn first cap).run Tryz.prog w = .ok (.func fn first cap) w := fun _ _ _ _ => rfl
 have HFIN := hide (show ∀ (t1 t2 : TypeId) (o1 o2 : Obj), o1 = .cells #[.pointer (some ⟨X, 0, none⟩)] t1 (0, 0) → o2 = .cells #[.int .i64 (m : Nat)] t2 (0, 0) → Step (fun _ => False) w ((w.alloc o1).alloc o2) ∧ IsMark ((w.alloc o1).alloc o2) X m (markV w.heap.size (w.heap.size + 1)) from fun t1 t2 o1 o2 e1 e2 => by
  have hz1 : (w.alloc o1).heap.size = w.heap.size + 1 := by simp
  have s1 : Step (fun _ => False) w (w.alloc o1) := (Step.refl _ _).alloc _
  have s2 : Step (fun _ => False) (w.alloc o1) ((w.alloc o1).alloc o2) := (Step.refl _ _).alloc _
  have b1 := heap_alloc_new w o1
  have b2 := heap_alloc_new (w.alloc o1) o2
  rw [hz1] at b2
  refine ⟨s1.trans s2, w.heap.size, w.heap.size + 1, rfl, ⟨hX, by simp; omega⟩, ⟨by omega, by simp⟩, s2.cell ?_ (fun x => x), ?_⟩
  ·subst e1; exact blk_cell b1 0 _ rfl
  ·subst e2; exact blk_cell b2 0 _ rfl)
 go_enter Tryz.func79, Tryz.ntmps79
 go_wp2_with fail
 go_ret
 exact ⟨_, _, rfl, unhide HFIN _ _ _ _ rfl rfl⟩
theorem with_new (X flag id : Nat) (w : World) (hX : X < w.heap.size) :
  Calls Tryz.prog 82 #[.pointer (some ⟨X, 0, none⟩), .int .i64 (flag : Nat), .func (.func id) #[.pointer (some ⟨X, 0, none⟩)] #[]] w fun r w' => ∃ a b c, r = .returned (.func (.func 123) #[] #[.pointer (some ⟨a, 0, none⟩), .pointer (some ⟨b, 0, none⟩), .pointer (some ⟨c, 0, none⟩)]) ∧ Step (fun _ => False) w w' ∧ IsWith w' X flag id (withV a b c) := by
 have hmf : ∀ (fn : Fn) (first cap : Array Value) (w : World), (Instr.makeFunc fn first cap).run Tryz.prog w = .ok (.func fn first cap) w := fun _ _ _ _ => rfl
 have HFIN := hide (show ∀ (t1 t2 t3 : TypeId) (o1 o2 o3 : Obj), o1 = .cells #[.pointer (some ⟨X, 0, none⟩)] t1 (0, 0) → o2 = .cells #[.int .i64 (flag : Nat)] t2 (0, 0) → o3 = .cells #[.func (.func id) #[.pointer (some ⟨X, 0, none⟩)] #[]] t3 (0, 0) → Step (fun _ => False) w (((w.alloc o1).alloc o2).alloc o3) ∧ IsWith (((w.alloc o1).alloc o2).alloc o3) X flag id (withV w.heap.size (w.heap.size + 1) (w.heap.size + 1 + 1)) from fun t1 t2 t3 o1 o2 o3 e1 e2 e3 => by
  have hz1 : (w.alloc o1).heap.size = w.heap.size + 1 := by simp
  have hz2 : ((w.alloc o1).alloc o2).heap.size = w.heap.size + 1 + 1 := by simp
  have s1 : Step (fun _ => False) w (w.alloc o1) := (Step.refl _ _).alloc _
  have s2 : Step (fun _ => False) (w.alloc o1) ((w.alloc o1).alloc o2) := (Step.refl _ _).alloc _
  have s3 : Step (fun _ => False) ((w.alloc o1).alloc o2) (((w.alloc o1).alloc o2).alloc o3) := (Step.refl _ _).alloc _
  have b1 := heap_alloc_new w o1
  have b2 := heap_alloc_new (w.alloc o1) o2
  have b3 := heap_alloc_new ((w.alloc o1).alloc o2) o3
  rw [hz1] at b2
  rw [hz2] at b3
  have hz := s3.size
  refine ⟨(s1.trans s2).trans s3, w.heap.size, w.heap.size + 1, w.heap.size + 1 + 1, rfl, ⟨hX, by simp; omega⟩, ⟨by omega, by simp⟩, ⟨by omega, by simp⟩, (s2.trans s3).cell ?_ (fun x => x), s3.cell ?_ (fun x => x), ?_⟩
  ·subst e1; exact blk_cell b1 0 _ rfl
  ·subst e2; exact blk_cell b2 0 _ rfl
  ·subst e3; exact blk_cell b3 0 _ rfl)
 go_enter Tryz.func82, Tryz.ntmps82
 go_wp2_with fail
 go_ret
 exact ⟨_, _, _, rfl, unhide HFIN _ _ _ _ _ _ rfl rfl rfl⟩
theorem gzipParts_ok (D : Nat) (w : World) :
  Calls Tryz.prog 52 #[.pointer (some ⟨D, 0, none⟩)] w fun r w' => ∃ (P : Nat) (F : Nat → Value), r = .returned (.slice (some ⟨P, 0, none⟩) 13 13) ∧ Step (fun _ => False) w w' ∧ w.heap.size < P ∧ w'.heap.size = P + 1 ∧ GzAt w' w.heap.size D 0 6 0 (.slice none 0 0) 0 0 ∧ GzParts w' w.heap.size F ∧ ∀ j, j < 13 → w'.cell? ⟨P, j, none⟩ = some (F j) := by
 have hmf : ∀ (fn : Fn) (first cap : Array Value) (w : World), (Instr.makeFunc fn first cap).run Tryz.prog w = .ok (.func fn first cap) w := fun _ _ _ _ => rfl
 go_enter Tryz.func52, Tryz.ntmps52
 go_wp2_with fail
 obtain ⟨X, hX⟩ : ∃ X, X = w.heap.size := ⟨_, rfl⟩
 obtain ⟨w0, hw0⟩ : ∃ w0, w0 = w.alloc (.cells #[.pointer (some ⟨D, 0, none⟩), .int .i64 0, .int .i64 6, .int .u32 0, .slice none 0 0, .int .u32 0, .int .u32 0] 137) := ⟨_, rfl⟩
 have hz0 : w0.heap.size = X + 1 := by rw [hw0, hX]; simp
 have hs0 : Step (fun _ => False) w w0 := by rw [hw0]; exact (Step.refl _ _).alloc _
 have hg0 : GzAt w0 X D 0 6 0 (.slice none 0 0) 0 0 := by rw [hw0, hX]; exact heap_alloc_new _ _
 have hX0 : X < w0.heap.size := by omega
 have HXX := hide hX
 rw [← hw0, ← hX]
 clear hw0 hX hz0
 refine (mark_new X 31 w0 hX0).mono ?_
 rintro r w1 ⟨a1, b1, rfl, hs1, hm1⟩
 have hX1 : X < w1.heap.size := by have := hs1.size; omega
 have HM1 := hide hm1
 have HS1 := hide hs1
 clear hs1 hm1
 go_wp2_with fail
 refine (mark_new X 139 w1 hX1).mono ?_
 rintro r w2 ⟨a2, b2, rfl, hs2, hm2⟩
 have hX2 : X < w2.heap.size := by have := hs2.size; omega
 have HM2 := hide hm2
 have HS2 := hide hs2
 clear hs2 hm2
 go_wp2_with fail
 refine (mark_new X 8 w2 hX2).mono ?_
 rintro r w3 ⟨a3, b3, rfl, hs3, hm3⟩
 have hX3 : X < w3.heap.size := by have := hs3.size; omega
 have HM3 := hide hm3
 have HS3 := hide hs3
 clear hs3 hm3
 go_wp2_with fail
 refine (with_new X 4 83 w3 hX3).mono ?_
 rintro r w4 ⟨a4, b4, c4, rfl, hs4, hm4⟩
 have hX4 : X < w4.heap.size := by have := hs4.size; omega
 have HM4 := hide hm4
 have HS4 := hide hs4
 clear hs4 hm4
 go_wp2_with fail
 refine (with_new X 4 81 w4 hX4).mono ?_
 rintro r w5 ⟨a5, b5, c5, rfl, hs5, hm5⟩
 have hX5 : X < w5.heap.size := by have := hs5.size; omega
 have HM5 := hide hm5
 have HS5 := hide hs5
 clear hs5 hm5
 go_wp2_with fail
 refine (with_new X 8 84 w5 hX5).mono ?_
 rintro r w6 ⟨a6, b6, c6, rfl, hs6, hm6⟩
 have hX6 : X < w6.heap.size := by have := hs6.size; omega
 have HM6 := hide hm6
 have HS6 := hide hs6
 clear hs6 hm6
 go_wp2_with fail
 refine (with_new X 16 85 w6 hX6).mono ?_
 rintro r w7 ⟨a7, b7, c7, rfl, hs7, hm7⟩
 have hX7 : X < w7.heap.size := by have := hs7.size; omega
 have HM7 := hide hm7
 have HS7 := hide hs7
 clear hs7 hm7
 go_wp2_with fail
 refine (with_new X 2 86 w7 hX7).mono ?_
 rintro r w8 ⟨a8, b8, c8, rfl, hs8, hm8⟩
 have hX8 : X < w8.heap.size := by have := hs8.size; omega
 have HM8 := hide hm8
 have HS8 := hide hs8
 clear hs8 hm8
 go_wp2_with fail
 go_ret
 have hXw := unhide HXX
 have t8 : Step (fun _ => False) w8 (w8.alloc (.cells #[markV a1 b1, markV a2 b2, markV a3 b3, plainV X 80, plainV X 81, withV a4 b4 c4, withV a5 b5 c5, withV a6 b6 c6, withV a7 b7 c7, withV a8 b8 c8, plainV X 87, plainV X 88, plainV X 89] 138)) := (Step.refl _ _).alloc _
 have t7 := (unhide HS8).trans t8
 have t6 := (unhide HS7).trans t7
 have t5 := (unhide HS6).trans t6
 have t4 := (unhide HS5).trans t5
 have t3 := (unhide HS4).trans t4
 have t2 := (unhide HS3).trans t3
 have t1 := (unhide HS2).trans t2
 have t0 := (unhide HS1).trans t1
 have hP : (w8.alloc (.cells #[markV a1 b1, markV a2 b2, markV a3 b3, plainV X 80, plainV X 81, withV a4 b4 c4, withV a5 b5 c5, withV a6 b6 c6, withV a7 b7 c7, withV a8 b8 c8, plainV X 87, plainV X 88, plainV X 89] 138)).heap[w8.heap.size]? = some (.cells #[markV a1 b1, markV a2 b2, markV a3 b3, plainV X 80, plainV X 81, withV a4 b4 c4, withV a5 b5 c5, withV a6 b6 c6, withV a7 b7 c7, withV a8 b8 c8, plainV X 87, plainV X 88, plainV X 89] 138 (0, 0)) := heap_alloc_new _ _
 refine ⟨w8.heap.size, fun j => #[markV a1 b1, markV a2 b2, markV a3 b3, plainV X 80, plainV X 81, withV a4 b4 c4, withV a5 b5 c5, withV a6 b6 c6, withV a7 b7 c7, withV a8 b8 c8, plainV X 87, plainV X 88, plainV X 89].getD j (.bool false), rfl, hs0.trans t0, by omega, by simp, by rw [← hXw]; exact t0.at_ hg0 (fun x => x), ?_, fun j hj => ?_⟩
 ·rw [← hXw]
  exact ⟨(unhide HM1).step0 t1, (unhide HM2).step0 t2, (unhide HM3).step0 t3, rfl, rfl, (unhide HM4).step0 t4, (unhide HM5).step0 t5, (unhide HM6).step0 t6, (unhide HM7).step0 t7, (unhide HM8).step0 t8, rfl, rfl, rfl⟩
 ·match j, hj with
  | 0, _ => exact blk_cell hP 0 _ rfl
  | 1, _ => exact blk_cell hP 1 _ rfl
  | 2, _ => exact blk_cell hP 2 _ rfl
  | 3, _ => exact blk_cell hP 3 _ rfl
  | 4, _ => exact blk_cell hP 4 _ rfl
  | 5, _ => exact blk_cell hP 5 _ rfl
  | 6, _ => exact blk_cell hP 6 _ rfl
  | 7, _ => exact blk_cell hP 7 _ rfl
  | 8, _ => exact blk_cell hP 8 _ rfl
  | 9, _ => exact blk_cell hP 9 _ rfl
  | 10, _ => exact blk_cell hP 10 _ rfl
  | 11, _ => exact blk_cell hP 11 _ rfl
  | 12, _ => exact blk_cell hP 12 _ rfl
theorem newWrapG (f most : Nat) (w : World) :
  Calls Tryz.prog 36 #[.int .i64 2, .pointer (some ⟨f, 0, none⟩), .int .i64 (most : Nat)] w fun e w' => e = .returned (.tuple #[.pointer (some ⟨w.heap.size + 1, 0, none⟩), .int .i64 0]) ∧
   ∃ P F, NewP w w' f most 13 (.cells #[.pointer (some ⟨w.heap.size + 1, 0, none⟩), .int .i64 0, .int .i64 6, .int .u32 0, .slice none 0 0, .int .u32 0, .int .u32 0] 137 (0, 0)) F P ∧ GzParts w' (w.heap.size + 2) F := by
 go_enter Tryz.func36, Tryz.ntmps36
 go_wp2_with fail
 refine (newDecG f most _).mono ?_
 rintro e w1 ⟨rfl, hw1⟩
 obtain ⟨d, hd⟩ : ∃ d, d = w.heap.size := ⟨_, rfl⟩
 have hz1 : w1.heap.size = d + 1 := by rw [hw1, hd]; simp
 have hs1 : Step (fun _ => False) w w1 := by rw [hw1]; exact (Step.refl _ _).alloc _
 have hd1 : w1.heap[d]? = some (freshD f most) := by rw [hw1, hd]; exact heap_alloc_new _ _
 have hdl : d ≤ w.heap.size := by omega
 have hdg : w.heap.size ≤ d := by omega
 rw [← hd]
 clear hw1 hd
 go_wp2_with fail
 obtain ⟨w2, hw2⟩ : ∃ w2, w2 = w1.alloc (.cells #[.pointer (some ⟨f, 0, none⟩), .pointer (some ⟨d, 0, none⟩), .slice none 0 0, .slice none 0 0, .string ⟨#[]⟩] 96) := ⟨_, rfl⟩
 have hz2 : w2.heap.size = d + 1 + 1 := by rw [hw2]; simp [hz1]
 have hs2 : Step (fun _ => False) w1 w2 := by rw [hw2]; exact (Step.refl _ _).alloc _
 have hD2 : WAtN w2 (d + 1) f d (.slice none 0 0) (.slice none 0 0) ⟨#[]⟩ := by rw [hw2, ← hz1]; exact heap_alloc_new _ _
 rw [← hw2]
 clear hw2
 refine (gzipParts_ok (d + 1) w2).mono ?_
 rintro e w3 ⟨P, F, rfl, hs3, hPl, hz3, hX3, hG3, hP3⟩
 rw [hz2] at hX3 hG3 hPl
 have hD3 := hs3.at_ hD2 (fun x => x)
 have k2 : w3.cell? ⟨d + 1, 2, none⟩ = some (.slice none 0 0) := blk_cell hD3 2 _ rfl
 have kf : w3.frozen? ⟨d + 1, 2, none⟩ = false := blk_free hD3 2
 have HFIN := hide (show NewP w (w3.setCell ⟨d + 1, 2, none⟩ (.slice (some ⟨P, 0, none⟩) 13 13)) f most 13 (.cells #[.pointer (some ⟨d + 1, 0, none⟩), .int .i64 0, .int .i64 6, .int .u32 0, .slice none 0 0, .int .u32 0, .int .u32 0] 137 (0, 0)) F P ∧ GzParts (w3.setCell ⟨d + 1, 2, none⟩ (.slice (some ⟨P, 0, none⟩) 13 13)) (d + 2) F from by
  obtain rfl : d = w.heap.size := by omega
  have hs4 : Step (· = w.heap.size + 1) w3 (w3.setCell ⟨w.heap.size + 1, 2, none⟩ (.slice (some ⟨P, 0, none⟩) 13 13)) := (Step.refl (· = w.heap.size + 1) w3).setCell (p := ⟨w.heap.size + 1, 2, none⟩) rfl _
  refine ⟨⟨((hs1.trans hs2).trans hs3).trans' hs4 (fun k hk x => by omega), by simp [hz3], by omega, hs4.at_ ((hs2.trans hs3).at_ hd1 (fun x => x)) (by omega), ?_, hs4.at_ hX3 (by omega), fun j hj => hs4.cell (hP3 j hj) (by show ¬ (P = w.heap.size + 1); omega)⟩, hG3.far hs4 (fun k hk => by show ¬ (k = w.heap.size + 1); omega)⟩
  have h9 := blk_set hD3 2 (.slice (some ⟨P, 0, none⟩) 13 13)
  simp at h9
  exact h9)
 clear hD3 hX3 hP3 hs1 hs2 hs3 hd1 hD2 hG3
 go_wp2_with fail
 go_ret2
 obtain rfl : d = w.heap.size := by omega
 exact ⟨rfl, P, F, unhide HFIN⟩
theorem newSaidG (g off cap e : Nat) (most : Nat) (B : List Nat) (out : List Nat) (used : Nat) (name : List Nat) (w0 w3 : World) (hm : most ≤ 1048576) (hg : g < w0.heap.size) (h4 : 4 ≤ w0.heap.size) (hsz : w3.heap.size = w0.heap.size + 1 + 1) (hF : FeedAt w3 (w0.heap.size + 1) (.slice (fedA g off B.length) B.length cap) 0 0) (hS : Go.Bel.Src w3 g off B) (hO : OrderAt w3) (hB : AllB B) (hL : B.length ≤ 8388608) (hr : gzAll B most e out used name) :
  NewSaid 2 (w0.heap.size + 1) most w0.heap.size (.slice (fedA g off B.length) B.length cap) e out used (baOf name) w3 := by
 refine (newWrapG (w0.heap.size + 1) most w3).mono ?_
 rintro r w4 ⟨rfl, P, F, h, hG⟩
 have h1 := h.size
 have h2 := h.lt
 refine ⟨w3.heap.size, w3.heap.size + 1, w3.heap.size + 2, rfl, h.step, by omega, ⟨by omega, by omega, by omega⟩, ⟨by omega, by omega, by omega⟩, fun w5 hs => ?_⟩
 have pl : ZPl w0.heap.size g (w0.heap.size + 1) w3.heap.size (w3.heap.size + 1) (w3.heap.size + 2) P := ⟨h4, hg, by omega, by omega, by omega, by omega, by omega⟩
 have hs35 := h.step.trans hs
 have hsz5 := hs.size
 refine gzRun_any (w0 := w5) (most := most) (q := ⟨0, 0, 0, 6, 0, 0, 0, [], [], []⟩) (lv := .slice none 0 0) (vo := .slice none 0 0) ⟨⟨hS.step hs35 (fun x => x), hO.step hs35 (fun _ _ x => x), fun j hj => hs.cell (h.parts j hj) (fun x => x), Step.refl _ _⟩, hs.at_ h.wrap (fun x => x), hs.at_ h.kept (fun x => x), World.ownsRow_nil _ _ _ _, hs35.at_ hF (fun x => x), by omega, World.ownsRow_nil _ _ _ _, fun _ => ⟨hs.at_ h.dec (fun x => x), rfl, rfl, rfl, rfl⟩, fun _ => rfl, Nat.zero_le _, by decide⟩ pl (hG.far hs (fun _ _ x => x)) ⟨fun _ => ⟨rfl, by simp [crcWith, crcFold]⟩, fun y => by have y : 4 ≤ 0 := y; omega, by decide, fun _ => rfl, fun y hy => by simp at hy, by decide, fun _ => rfl, fun _ => rfl, fun _ => rfl⟩ hB hL hm (by decide) ⟨rfl, hr⟩
def UsedOk (B : List Nat) (most e : Nat) (out : List Nat) (used : Nat) : Prop := (e ≠ 0 → used = 0) ∧ used ≤ B.length ∧ out.length ≤ most
theorem gzNo_used {B : List Nat} {most x : Nat} {nm : List Nat} {e : Nat} {out : List Nat} {used : Nat} {name : List Nat} (h : gzNo x nm e out used name) : UsedOk B most e out used := ⟨fun _ => h.2.2.1, by rw [h.2.2.1]; exact Nat.zero_le _, by rw [h.2.1]; exact Nat.zero_le _⟩
theorem gzBody_used {B : List Nat} {most p : Nat} {nm : List Nat} {e : Nat} {out : List Nat} {used : Nat} {name : List Nat} (h : gzBody B most p nm e out used name) : UsedOk B most e out used := by
 obtain ⟨n, e1, o1, q1, hr, ht⟩ := h
 have hlen := (gAt_run hr).2.2
 by_cases h5 : e1 = 0
 ·rw [if_pos h5] at ht
  unfold gzTail at ht
  by_cases h6 : q1 + 32 ≤ 8 * B.length
  ·rw [if_pos h6] at ht
   by_cases h7 : numAt B q1 32 = crcWith 0 o1
   ·rw [if_pos h7] at ht
    obtain ⟨hto, _, ht⟩ := ht
    rw [← hto] at hlen
    by_cases h8 : q1 + 32 + 32 ≤ 8 * B.length
    ·rw [if_pos h8] at ht
     by_cases h9 : numAt B (q1 + 32) 32 = o1.length
     ·rw [if_pos h9] at ht
      exact ⟨fun x => absurd ht.1 x, by rw [ht.2]; omega, hlen⟩
     ·rw [if_neg h9] at ht
      exact ⟨fun _ => ht.2, by rw [ht.2]; exact Nat.zero_le _, hlen⟩
    ·rw [if_neg h8] at ht
     exact ⟨fun _ => ht.2, by rw [ht.2]; exact Nat.zero_le _, hlen⟩
   ·rw [if_neg h7] at ht
    exact ⟨fun _ => ht.2.2.1, by rw [ht.2.2.1]; exact Nat.zero_le _, by rw [ht.2.1]; exact hlen⟩
  ·rw [if_neg h6] at ht
   exact ⟨fun _ => ht.2.2.1, by rw [ht.2.2.1]; exact Nat.zero_le _, by rw [ht.2.1]; exact hlen⟩
 ·rw [if_neg h5] at ht
  exact ⟨fun _ => ht.2.2.1, by rw [ht.2.2.1]; exact Nat.zero_le _, by rw [ht.2.1]; exact hlen⟩
theorem gzCheck_used {B : List Nat} {most fl p : Nat} {nm : List Nat} {e : Nat} {out : List Nat} {used : Nat} {name : List Nat} (h : gzCheck B most fl p nm e out used name) : UsedOk B most e out used := by
 unfold gzCheck at h
 split at h
 ·split at h
  ·split at h
   ·exact gzBody_used h
   ·exact gzNo_used h
  ·exact gzNo_used h
 ·exact gzBody_used h
theorem gzRemark_used {B : List Nat} {most fl p : Nat} {nm : List Nat} {e : Nat} {out : List Nat} {used : Nat} {name : List Nat} (h : gzRemark B most fl p nm e out used name) : UsedOk B most e out used := by
 unfold gzRemark at h
 split at h
 ·obtain ⟨l, ok, q, _, h⟩ := h
  split at h
  ·exact gzCheck_used h
  ·exact gzNo_used h
 ·exact gzCheck_used h
theorem gzName_used {B : List Nat} {most fl p : Nat} {l0 : List Nat} {e : Nat} {out : List Nat} {used : Nat} {name : List Nat} (h : gzName B most fl p l0 e out used name) : UsedOk B most e out used := by
 unfold gzName at h
 split at h
 ·obtain ⟨l, ok, q, _, h⟩ := h
  split at h
  ·exact gzRemark_used h
  ·exact gzNo_used h
 ·exact gzRemark_used h
theorem gzPass_used {B : List Nat} {most fl p left : Nat} {e : Nat} {out : List Nat} {used : Nat} {name : List Nat} (h : gzPass B most fl p left e out used name) : UsedOk B most e out used := by
 unfold gzPass at h
 split at h
 ·split at h
  ·exact gzName_used h
  ·exact gzNo_used h
 ·exact gzName_used h
theorem gzMark_used {B : List Nat} {most m p : Nat} {K : Nat → List Nat → Nat → List Nat → Prop} {e : Nat} {out : List Nat} {used : Nat} {name : List Nat} (h : gzMark B m p K e out used name) (hK : K e out used name → UsedOk B most e out used) : UsedOk B most e out used := by
 unfold gzMark at h
 split at h
 ·split at h
  ·exact hK h
  ·exact gzNo_used h
 ·exact gzNo_used h
theorem gzAll_used {B : List Nat} {most : Nat} {e : Nat} {out : List Nat} {used : Nat} {name : List Nat} (h : gzAll B most e out used name) : UsedOk B most e out used := by
 refine gzMark_used h (fun h => gzMark_used h (fun h => gzMark_used h (fun h => ?_)))
 unfold gzFlags at h
 split at h
 ·split at h
  ·unfold gzSkip at h
   split at h
   ·unfold gzExtra at h
    split at h
    ·split at h
     ·exact gzPass_used h
     ·exact gzNo_used h
    ·exact gzName_used h
   ·exact gzNo_used h
  ·exact gzNo_used h
 ·exact gzNo_used h
theorem unpackGz (g off cap e : Nat) (most : Int) (B : List Nat) (out : List Nat) (used : Nat) (name : List Nat) (w : World) (hS : Go.Bel.Src w g off B) (hg : g < w.heap.size) (hO : OrderAt w) (h4 : 4 ≤ w.heap.size) (hB : AllB B) (hL : B.length ≤ 8388608) (hr : gzAll B (asked most) e out used name) :
  Calls Tryz.prog 25 #[.int .i64 2, .slice (fedA g off B.length) B.length cap, .int .i64 most] w
   fun r w' => ∃ v', r = .returned (.agg #[.int .i64 (e : Nat), v', .int .i64 (used : Nat), .string (baOf name)]) ∧ w'.ownsRow w.heap.size 5 1 v' out.length (u8s out) ∧ Step (fun _ => False) w w' := by
 obtain ⟨hu, hu2, _⟩ := gzAll_used hr
 exact unpackN 2 g off cap e most B out used (baOf name) w hS hO hu (by omega) (fun w3 _ hsz hF hS3 hO3 => newSaidG g off cap e (asked most) B out used name w w3 (asked_le most) hg h4 hsz hF hS3 hO3 hB hL hr)
end Go.Proofs.YtbpahojchgpdnaaGreatDoor
