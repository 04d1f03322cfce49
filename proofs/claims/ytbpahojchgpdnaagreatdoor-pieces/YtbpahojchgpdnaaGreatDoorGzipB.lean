/- Proved here: what a Gzip's bare part does, and a part that is there only if a flag is set. -/
import Derived.Deep.RegionWith
import Derived.Test.YtbpahojchgpdnaaGreatDoorGzipA
set_option maxRecDepth 20000
set_option maxHeartbeats 4000000
namespace Go.Proofs.YtbpahojchgpdnaaGreatDoor
open Go.RowKit Go.Bel Go.Maps
theorem gzBare_any (Z D d f base g off cap z n e fl left head check : Nat) (lv : Value) (parts : Value) (nm : ByteArray) (B : List Nat) (s : GS) (out : List Nat) (q : Nat) (w : World) (hZ : GzAt w Z D fl left head lv check 0) (hD : WAtN w D f d parts (.slice none 0 0) nm) (hDd : D ≠ d) (hDf : D ≠ f) (hDb : D < base) (hgD : g ≠ D) (hH : HoldsG w d f base g off cap z B s (.slice none 0 0)) (hr : GRun B n s e out q) (ht : s.taken = 0) (hob : AllB out) (hol : out.length ≤ 1048576) (hs : check < 4294967296) (hZn : Z ≠ D ∧ Z ≠ d ∧ Z ≠ f) :
  Calls Tryz.prog 87 #[.pointer (some ⟨Z, 0, none⟩)] w fun r w' => r = .returned (.tuple #[.bool (e == 0), .int .i64 (e : Nat)]) ∧ ∃ vo, BareP D d f Z (.slice (fedA g off B.length) B.length cap) z e B out q parts vo nm w w' ∧ GzAt w' Z D fl left head lv (crcWith check out) out.length := by
 have c0 : w.cell? ⟨Z, 0, none⟩ = some (.pointer (some ⟨D, 0, none⟩)) := blk_cell hZ 0 _ rfl
 have hZl := lt_of_block hZ
 have HB := hide (wrapBareN_any D d f base g off cap z n e parts nm B s out q (.slice none 0 0) w hD ⟨hDd, hDf, by simp [Value.ownBlock]⟩ hDb hgD hH hr)
 have HZ := hide hZ
 clear hD hH hr hZ
 go_enter Tryz.func87, Tryz.ntmps87
 go_wp2_with fail
 refine (unhide HB).mono ?_
 rintro r w1 ⟨rfl, vo, hD1, hrun, htk⟩
 rw [ht, List.drop_zero] at htk
 obtain ⟨st, q', h1, h2, h3, h5, h6⟩ := hrun.ex
 have hs1 : Step (fun k => k = D ∨ k = d ∨ k = f ∨ k = Z) w w1 := h5.mono (fun k x => by
  rcases x with x | x | x | x
  ·exact .inl x
  ·exact .inr (.inl x)
  ·exact .inr (.inr (.inl x))
  ·cases x)
 have hz1 : GzAt w1 Z D fl left head lv check 0 := h5.at_ (unhide HZ) (fun x => by
  rcases x with x | x | x | x
  ·exact hZn.1 x
  ·exact hZn.2.1 x
  ·exact hZn.2.2 x
  ·cases x)
 have a0 : w1.cell? ⟨Z, 0, none⟩ = some (.pointer (some ⟨D, 0, none⟩)) := blk_cell hz1 0 _ rfl
 have a2 : w1.cell? ⟨Z, 5, none⟩ = some (.int .u32 (check : Nat)) := blk_cell hz1 5 _ rfl
 have af : w1.frozen? ⟨Z, 5, none⟩ = false := blk_free hz1 5
 have a6 : w1.cell? ⟨Z, 6, none⟩ = some (.int .u32 ((0 : Nat) : Int)) := blk_cell hz1 6 _ rfl
 have af6 : w1.frozen? ⟨Z, 6, none⟩ = false := blk_free hz1 6
 obtain ⟨ao, co, hvo⟩ := htk.slice
 have a3 : w1.cell? ⟨D, 3, none⟩ = some vo := blk_cell hD1 3 _ rfl
 have HSW := hide (checkWith_any check vo out w1.drew hs (htk.step ((Step.refl (fun _ => False) w1).drew) (fun _ _ x => x)).bytesV hob (by omega))
 have hlt := crcWith_lt check out
 obtain ⟨no, hno⟩ : ∃ no, no = out.length := ⟨_, rfl⟩
 have HFIN := hide (show ∀ k, BareP D d f Z (.slice (fedA g off B.length) B.length cap) z e B out q parts vo nm w (((w1.setCell ⟨Z, 5, none⟩ (.int .u32 (crcWith check out : Nat))).setCell ⟨Z, 6, none⟩ (.int .u32 (no : Nat))).drewN k) ∧ GzAt (((w1.setCell ⟨Z, 5, none⟩ (.int .u32 (crcWith check out : Nat))).setCell ⟨Z, 6, none⟩ (.int .u32 (no : Nat))).drewN k) Z D fl left head lv (crcWith check out) out.length from fun k => by
  have hs2 : Step (· = Z) w1 (((w1.setCell ⟨Z, 5, none⟩ (.int .u32 (crcWith check out : Nat))).setCell ⟨Z, 6, none⟩ (.int .u32 (no : Nat))).drewN k) := (((Step.refl (· = Z) w1).setCell (p := ⟨Z, 5, none⟩) rfl _).setCell (p := ⟨Z, 6, none⟩) rfl _).drewN k
  refine ⟨⟨hs2.at_ hD1 (fun x => hZn.1 x.symm), ⟨q', hs2.at_ h3.feed (fun x => hZn.2.2 x.symm), h2⟩, htk.step hs2 (fun k hk x => by omega), hs1.trans (hs2.mono (fun k x => .inr (.inr (.inr x))))⟩, ?_⟩
  have h8 := blk_set hz1 5 (.int .u32 (crcWith check out : Nat))
  have h9 := blk_set h8 6 (.int .u32 (no : Nat))
  rw [← hno]
  simpa [World.drewN] using h9)
 rw [← hno] at hvo hol
 have n1 : ¬ D = Z := fun x => hZn.1 x.symm
 have n2 : ¬ Z = D := hZn.1
 have hZ1l := lt_of_block hz1
 rw [hvo] at a3 HSW HFIN
 clear hno hz1 hs1 h1 h2 h3 h5 h6 hrun htk hD1 HB HZ hvo
 go_wp2_with fail
 go_region_with
  (first | (go_at_call 94; refine (unhide HSW).mono ?_; rintro e w8 ⟨rfl, rfl⟩))
 all_goals
  go_wp2_with fail
  go_region
  go_wp2_with fail
  go_ret2
  exact ⟨rfl, _, unhide HFIN 2⟩
end Go.Proofs.YtbpahojchgpdnaaGreatDoor
namespace Go.Proofs.YtbpahojchgpdnaaGreatDoor
open Go.RowKit Go.Bel Go.Maps
theorem and_224 : ∀ a, a < 256 → a &&& 224 = a / 32 * 32 := by decide +kernel
theorem readFlags_any (X D f d g off cap z p fl left head check size : Nat) (lv : Value) (B : List Nat) (parts vo : Value) (nm : ByteArray) (w : World) (h : GIn w X D f d g off cap z p fl left head lv check size B parts vo nm) (e : Nat) (he : e = if numAt B p 8 < 32 then 0 else 4) :
  Calls Tryz.prog 80 #[.pointer (some ⟨X, 0, none⟩)] w (GzTo 8 p B f (.slice (fedA g off B.length) B.length cap) z X D d (numAt B p 8) left (crcWith head [numAt B p 8]) lv check size parts vo nm true e (fun k => k = f ∨ k = X) w) := by
 have HD := hide h.dec
 have HE := hide he
 have hDX := h.DX
 have hDf := h.Df
 have hXf := h.Xf
 have hC := h.byte
 clear h he
 by_cases hlt : p + 8 ≤ 8 * B.length
 ·have HC := hide (hC.mono (fun r w' h => h.ok hlt))
  have hx := numAt_lt B p 8
  have HG := hide (show ∀ w', FeedAt w' f (.slice (fedA g off B.length) B.length cap) (p + 8) z → GzAt w' X D fl left (crcWith head [numAt B p 8]) lv check size → Step (fun k => k = f ∨ k = X) w w' → GzTo 8 p B f (.slice (fedA g off B.length) B.length cap) z X D d (numAt B p 8) left (crcWith head [numAt B p 8]) lv check size parts vo nm true e (fun k => k = f ∨ k = X) w (.returned (.tuple #[.bool true, .int .i64 (e : Nat)])) (w'.setCell ⟨X, 1, none⟩ (.int .i64 (numAt B p 8 : Nat))) from fun w' h1 h2 h3 => by
   have hs : Step (fun k => k = f ∨ k = X) w (w'.setCell ⟨X, 1, none⟩ (.int .i64 (numAt B p 8 : Nat))) := h3.setCell (p := ⟨X, 1, none⟩) (.inr rfl) _
   refine .inl ⟨hlt, ((Step.refl (· = X) w').setCell (p := ⟨X, 1, none⟩) rfl _).at_ h1 (fun x => hXf x.symm), rfl, ?_, hs.at_ (unhide HD) (fun x => x.elim hDf hDX), hs⟩
   have h9 := blk_set h2 1 (.int .i64 (numAt B p 8 : Nat))
   simpa using h9)
  clear hC hlt
  generalize numAt B p 8 = c at *
  have hc : c < 256 := hx
  have hal := and_i64 c 224 (by omega) (by omega)
  rw [and_224 c hc] at hal
  have hal : bits .and .i64 (c : Int) 224 = ((c / 32 * 32 : Nat) : Int) := hal
  go_enter Tryz.func80, Tryz.ntmps80
  go_wp2_with fail
  refine (unhide HC).mono ?_
  rintro r w1 ⟨h1, rfl, h2, h3⟩
  have z1 : w1.cell? ⟨X, 1, none⟩ = some (.int .i64 (fl : Nat)) := blk_cell h2 1 _ rfl
  have zf : w1.frozen? ⟨X, 1, none⟩ = false := blk_free h2 1
  have hXl := lt_of_block h2
  have HGG := hide (unhide HG w1 h1 h2 h3)
  clear h1 h2 h3 HG HC
  by_cases h32 : c < 32
  ·have hb : ((c : Int) / 32 * 32 == 0) = true := beq_iff_eq.2 (by omega)
   have HEE := hide (show e = 0 by rw [unhide HE, if_pos h32])
   clear HE h32
   go_wp2_with fail
   refine (holds_any true 4 _).mono ?_
   rintro r w2 ⟨rfl, rfl⟩
   go_wp2_with fail
   go_ret2
   have h9 := unhide HGG
   rw [unhide HEE] at h9
   rw [unhide HEE]
   exact h9
  ·have hb : ((c : Int) / 32 * 32 == 0) = false := beq_eq_false_iff_ne.2 (by omega)
   have HEE := hide (show e = 4 by rw [unhide HE, if_neg h32])
   clear HE h32
   go_wp2_with fail
   refine (holds_any false 4 _).mono ?_
   rintro r w2 ⟨rfl, rfl⟩
   go_wp2_with fail
   go_ret2
   have h9 := unhide HGG
   rw [unhide HEE] at h9
   rw [unhide HEE]
   exact h9
 ·have HC := hide (hC.mono (fun r w' h => h.lost hlt))
  have HG := hide (show ∀ w', FeedAt w' f (.slice (fedA g off B.length) B.length cap) (8 * B.length) z → Step (· = f) w w' → GzTo 8 p B f (.slice (fedA g off B.length) B.length cap) z X D d (numAt B p 8) left (crcWith head [numAt B p 8]) lv check size parts vo nm true e (fun k => k = f ∨ k = X) w lost w' from fun w' h1 h2 => .inr ⟨by omega, rfl, h1, h2⟩)
  clear hC hlt
  go_enter Tryz.func80, Tryz.ntmps80
  go_wp2_with fail
  refine (unhide HC).mono ?_
  rintro r w1 ⟨rfl, h1, h2⟩
  have HGG := hide (unhide HG w1 h1 h2)
  clear h1 h2 HG HC
  go_wp2_with fail
  exact ⟨rfl, unhide HGG⟩
end Go.Proofs.YtbpahojchgpdnaaGreatDoor
namespace Go.Proofs.YtbpahojchgpdnaaGreatDoor
open Go.RowKit Go.Bel Go.Maps
theorem pass_any (X D f d g off cap z p fl left head check size : Nat) (lv : Value) (B : List Nat) (parts vo : Value) (nm : ByteArray) (w : World) (h : GIn w X D f d g off cap z p fl left head lv check size B parts vo nm) (hl : 0 < left) (hm : left < 1000000) (thr : Bool) (ht : thr = (left == 1)) :
  Calls Tryz.prog 81 #[.pointer (some ⟨X, 0, none⟩)] w (GzTo 8 p B f (.slice (fedA g off B.length) B.length cap) z X D d fl (left - 1) (crcWith head [numAt B p 8]) lv check size parts vo nm thr 0 (fun k => k = f ∨ k = X) w) := by
 have HD := hide h.dec
 have HT := hide ht
 have hDX := h.DX
 have hDf := h.Df
 have hXf := h.Xf
 have hC := h.byte
 have c2 : w.cell? ⟨X, 2, none⟩ = some (.int .i64 (left : Nat)) := blk_cell h.gz 2 _ rfl
 clear h ht
 by_cases hlt : p + 8 ≤ 8 * B.length
 ·have HC := hide (hC.mono (fun r w' h => h.ok hlt))
  have HG := hide (show ∀ w', FeedAt w' f (.slice (fedA g off B.length) B.length cap) (p + 8) z → GzAt w' X D fl left (crcWith head [numAt B p 8]) lv check size → Step (fun k => k = f ∨ k = X) w w' → GzTo 8 p B f (.slice (fedA g off B.length) B.length cap) z X D d fl (left - 1) (crcWith head [numAt B p 8]) lv check size parts vo nm thr 0 (fun k => k = f ∨ k = X) w (.returned (.tuple #[.bool thr, .int .i64 ((0 : Nat) : Int)])) (w'.setCell ⟨X, 2, none⟩ (.int .i64 ((left : Int) - 1))) from fun w' h1 h2 h3 => by
   have hs : Step (fun k => k = f ∨ k = X) w (w'.setCell ⟨X, 2, none⟩ (.int .i64 ((left : Int) - 1))) := h3.setCell (p := ⟨X, 2, none⟩) (.inr rfl) _
   refine .inl ⟨hlt, ((Step.refl (· = X) w').setCell (p := ⟨X, 2, none⟩) rfl _).at_ h1 (fun x => hXf x.symm), rfl, ?_, hs.at_ (unhide HD) (fun x => x.elim hDf hDX), hs⟩
   have h9 := blk_set h2 2 (.int .i64 ((left : Int) - 1))
   rw [show ((left : Int) - 1) = ((left - 1 : Nat) : Int) by omega] at h9 ⊢
   simpa using h9)
  clear hC hlt
  have hl0 : (left : Int) > 0 := by omega
  go_enter Tryz.func81, Tryz.ntmps81
  go_wp2_with fail
  refine (unhide HC).mono ?_
  rintro r w1 ⟨h1, rfl, h2, h3⟩
  have z1 : w1.cell? ⟨X, 2, none⟩ = some (.int .i64 (left : Nat)) := blk_cell h2 2 _ rfl
  have zf : w1.frozen? ⟨X, 2, none⟩ = false := blk_free h2 2
  have hXl := lt_of_block h2
  have HGG := hide (unhide HG w1 h1 h2 h3)
  clear h1 h2 h3 HG HC
  have hbt : ((left : Int) - 1 == 0) = thr := by
   rw [unhide HT, Bool.eq_iff_iff, beq_iff_eq, beq_iff_eq]
   omega
  clear HT
  go_wp2_with fail
  go_ret2
  exact unhide HGG
 ·have HC := hide (hC.mono (fun r w' h => h.lost hlt))
  have HG := hide (show ∀ w', FeedAt w' f (.slice (fedA g off B.length) B.length cap) (8 * B.length) z → Step (· = f) w w' → GzTo 8 p B f (.slice (fedA g off B.length) B.length cap) z X D d fl (left - 1) (crcWith head [numAt B p 8]) lv check size parts vo nm thr 0 (fun k => k = f ∨ k = X) w lost w' from fun w' h1 h2 => .inr ⟨by omega, rfl, h1, h2⟩)
  clear hC hlt
  have hl0 : (left : Int) > 0 := by omega
  go_enter Tryz.func81, Tryz.ntmps81
  go_wp2_with fail
  refine (unhide HC).mono ?_
  rintro r w1 ⟨rfl, h1, h2⟩
  have HGG := hide (unhide HG w1 h1 h2)
  clear h1 h2 HG HC
  go_wp2_with fail
  exact ⟨rfl, unhide HGG⟩
theorem pass_none (X D f d g off cap z p fl left head check size : Nat) (lv : Value) (B : List Nat) (parts vo : Value) (nm : ByteArray) (w : World) (h : GIn w X D f d g off cap z p fl left head lv check size B parts vo nm) (hl : left = 0) :
  Calls Tryz.prog 81 #[.pointer (some ⟨X, 0, none⟩)] w (GzTo 0 p B f (.slice (fedA g off B.length) B.length cap) z X D d fl 0 head lv check size parts vo nm true 0 (fun k => k = f ∨ k = X) w) := by
 subst hl
 have c2 : w.cell? ⟨X, 2, none⟩ = some (.int .i64 ((0 : Nat) : Int)) := blk_cell h.gz 2 _ rfl
 have HH := hide h
 clear h
 go_enter Tryz.func81, Tryz.ntmps81
 go_wp2_with fail
 go_ret2
 exact .inl ⟨(unhide HH).here, (unhide HH).feed, rfl, (unhide HH).gz, (unhide HH).dec, Step.refl _ _⟩
end Go.Proofs.YtbpahojchgpdnaaGreatDoor
namespace Go.Proofs.YtbpahojchgpdnaaGreatDoor
open Go.RowKit Go.Bel Go.Maps
theorem remark_any (X D f d g off cap z p fl left head check size : Nat) (lv : Value) (B : List Nat) (parts vo : Value) (nm : ByteArray) (w : World) (h : GIn w X D f d g off cap z p fl left head lv check size B parts vo nm) (thr : Bool) (ht : thr = (numAt B p 8 == 0)) :
  Calls Tryz.prog 85 #[.pointer (some ⟨X, 0, none⟩)] w (GzTo 8 p B f (.slice (fedA g off B.length) B.length cap) z X D d fl left (crcWith head [numAt B p 8]) lv check size parts vo nm thr 0 (fun k => k = f ∨ k = X) w) := by
 have HD := hide h.dec
 have HT := hide ht
 have hDX := h.DX
 have hDf := h.Df
 have hXf := h.Xf
 have hC := h.byte
 clear h ht
 by_cases hlt : p + 8 ≤ 8 * B.length
 ·have HC := hide (hC.mono (fun r w' h => h.ok hlt))
  have HG := hide (show ∀ w', FeedAt w' f (.slice (fedA g off B.length) B.length cap) (p + 8) z → GzAt w' X D fl left (crcWith head [numAt B p 8]) lv check size → Step (fun k => k = f ∨ k = X) w w' → GzTo 8 p B f (.slice (fedA g off B.length) B.length cap) z X D d fl left (crcWith head [numAt B p 8]) lv check size parts vo nm thr 0 (fun k => k = f ∨ k = X) w (.returned (.tuple #[.bool thr, .int .i64 ((0 : Nat) : Int)])) w' from fun w' h1 h2 h3 =>
   .inl ⟨hlt, h1, rfl, h2, h3.at_ (unhide HD) (fun x => x.elim hDf hDX), h3⟩)
  clear hC hlt
  generalize numAt B p 8 = c at *
  have hbt : ((c : Int) == 0) = thr := by
   rw [unhide HT, Bool.eq_iff_iff, beq_iff_eq, beq_iff_eq]
   omega
  clear HT
  go_enter Tryz.func85, Tryz.ntmps85
  go_wp2_with fail
  refine (unhide HC).mono ?_
  rintro r w1 ⟨h1, rfl, h2, h3⟩
  have HGG := hide (unhide HG w1 h1 h2 h3)
  clear h1 h2 h3 HG HC
  go_wp2_with fail
  go_ret2
  exact unhide HGG
 ·have HC := hide (hC.mono (fun r w' h => h.lost hlt))
  have HG := hide (show ∀ w', FeedAt w' f (.slice (fedA g off B.length) B.length cap) (8 * B.length) z → Step (· = f) w w' → GzTo 8 p B f (.slice (fedA g off B.length) B.length cap) z X D d fl left (crcWith head [numAt B p 8]) lv check size parts vo nm thr 0 (fun k => k = f ∨ k = X) w lost w' from fun w' h1 h2 => .inr ⟨by omega, rfl, h1, h2⟩)
  clear hC hlt
  go_enter Tryz.func85, Tryz.ntmps85
  go_wp2_with fail
  refine (unhide HC).mono ?_
  rintro r w1 ⟨rfl, h1, h2⟩
  have HGG := hide (unhide HG w1 h1 h2)
  clear h1 h2 HG HC
  go_wp2_with fail
  exact ⟨rfl, unhide HGG⟩
end Go.Proofs.YtbpahojchgpdnaaGreatDoor
namespace Go.Proofs.YtbpahojchgpdnaaGreatDoor
open Go.RowKit Go.Bel Go.Maps
theorem headHolds_any (X D f d g off cap z p fl left head check size : Nat) (lv : Value) (B : List Nat) (parts vo : Value) (nm : ByteArray) (w : World) (h : GIn w X D f d g off cap z p fl left head lv check size B parts vo nm) (e : Nat) (he : e = if (numAt B p 16) = head % 65536 then 0 else 12) :
  Calls Tryz.prog 86 #[.pointer (some ⟨X, 0, none⟩)] w (GzTo 16 p B f (.slice (fedA g off B.length) B.length cap) z X D d fl left head lv check size parts vo nm true e (fun k => k = f ∨ k = X) w) := by
 have c0 : w.cell? ⟨X, 0, none⟩ = some (.pointer (some ⟨D, 0, none⟩)) := blk_cell h.gz 0 _ rfl
 have d0 : w.cell? ⟨D, 0, none⟩ = some (.pointer (some ⟨f, 0, none⟩)) := blk_cell h.dec 0 _ rfl
 have HE := hide he
 clear he
 by_cases hlt : p + 16 ≤ 8 * B.length
 ·have hx := numAt_lt B p 16
  have HN := hide (feedNum_ok f g off cap z p 16 B w h.feed h.src h.gf (by omega) hlt)
  have HG := hide (show ∀ w', Fed f w w' (p + 16) → GzAt w' X D fl left head lv check size ∧ GzTo 16 p B f (.slice (fedA g off B.length) B.length cap) z X D d fl left head lv check size parts vo nm true e (fun k => k = f ∨ k = X) w (.returned (.tuple #[.bool true, .int .i64 (e : Nat)])) w' from fun w' h1 => by
   have h2 := h1.step.at_ h.gz h.Xf
   exact ⟨h2, .inl ⟨hlt, h1.feed _ _ _ _ h.feed, rfl, h2, h1.step.at_ h.dec h.Df, h1.step.mono (fun k x => .inl x)⟩⟩)
  have hh := h.hh
  clear h hlt
  generalize numAt B p 16 = c at *
  have hc : c < 65536 := hx
  go_enter Tryz.func86, Tryz.ntmps86
  go_wp2_with fail
  refine (unhide HN).mono ?_
  rintro r w1 ⟨rfl, hf1⟩
  obtain ⟨h2, hGG⟩ := unhide HG w1 hf1
  have z1 : w1.cell? ⟨X, 3, none⟩ = some (.int .u32 (head : Nat)) := blk_cell h2 3 _ rfl
  have HGG := hide hGG
  clear h2 hf1 HG HN hGG
  by_cases hok : c = head % 65536
  ·have hb : ((c : Int) == IntKind.u16.wrap (head : Int)) = true := beq_iff_eq.2 (by rw [IntKind.wrap_u16]; omega)
   have HEE := hide (show e = 0 by rw [unhide HE, if_pos hok])
   clear HE hok
   go_wp2_with fail
   refine (holds_any true 12 _).mono ?_
   rintro r w2 ⟨rfl, rfl⟩
   go_wp2_with fail
   go_ret2
   have h9 := unhide HGG
   rw [unhide HEE] at h9
   rw [unhide HEE]
   exact h9
  ·have hb : ((c : Int) == IntKind.u16.wrap (head : Int)) = false := beq_eq_false_iff_ne.2 (by rw [IntKind.wrap_u16]; omega)
   have HEE := hide (show e = 12 by rw [unhide HE, if_neg hok])
   clear HE hok
   go_wp2_with fail
   refine (holds_any false 12 _).mono ?_
   rintro r w2 ⟨rfl, rfl⟩
   go_wp2_with fail
   go_ret2
   have h9 := unhide HGG
   rw [unhide HEE] at h9
   rw [unhide HEE]
   exact h9
 ·have HN := hide (feedNum_miss f g off cap z p 16 B w h.feed h.src h.gf (by omega) h.here (by omega))
  have HF := hide h.feed
  have HG := hide (show ∀ w', FeedAt w' f (.slice (fedA g off B.length) B.length cap) (8 * B.length) z → Step (· = f) w w' → GzTo 16 p B f (.slice (fedA g off B.length) B.length cap) z X D d fl left head lv check size parts vo nm true e (fun k => k = f ∨ k = X) w lost w' from fun w' h1 h2 => .inr ⟨by omega, rfl, h1, h2⟩)
  clear h hlt
  go_enter Tryz.func86, Tryz.ntmps86
  go_wp2_with fail
  refine (unhide HN).mono ?_
  rintro r w1 ⟨rfl, hf1⟩
  have HGG := hide (unhide HG w1 (hf1.feed _ _ _ _ (unhide HF)) hf1.step)
  clear hf1 HN HF HG
  go_wp2_with fail
  exact ⟨rfl, unhide HGG⟩
theorem checkHolds_any (X D f d g off cap z p fl left head check size : Nat) (lv : Value) (B : List Nat) (parts vo : Value) (nm : ByteArray) (w : World) (h : GIn w X D f d g off cap z p fl left head lv check size B parts vo nm) (e : Nat) (he : e = if (numAt B p 32) = check then 0 else 12) :
  Calls Tryz.prog 88 #[.pointer (some ⟨X, 0, none⟩)] w (GzTo 32 p B f (.slice (fedA g off B.length) B.length cap) z X D d fl left head lv check size parts vo nm true e (fun k => k = f ∨ k = X) w) := by
 have c0 : w.cell? ⟨X, 0, none⟩ = some (.pointer (some ⟨D, 0, none⟩)) := blk_cell h.gz 0 _ rfl
 have d0 : w.cell? ⟨D, 0, none⟩ = some (.pointer (some ⟨f, 0, none⟩)) := blk_cell h.dec 0 _ rfl
 have HE := hide he
 clear he
 by_cases hlt : p + 32 ≤ 8 * B.length
 ·have hx := numAt_lt B p 32
  have HN := hide (feedNum_ok f g off cap z p 32 B w h.feed h.src h.gf (by omega) hlt)
  have HG := hide (show ∀ w', Fed f w w' (p + 32) → GzAt w' X D fl left head lv check size ∧ GzTo 32 p B f (.slice (fedA g off B.length) B.length cap) z X D d fl left head lv check size parts vo nm true e (fun k => k = f ∨ k = X) w (.returned (.tuple #[.bool true, .int .i64 (e : Nat)])) w' from fun w' h1 => by
   have h2 := h1.step.at_ h.gz h.Xf
   exact ⟨h2, .inl ⟨hlt, h1.feed _ _ _ _ h.feed, rfl, h2, h1.step.at_ h.dec h.Df, h1.step.mono (fun k x => .inl x)⟩⟩)
  have hh := h.hh
  clear h hlt
  generalize numAt B p 32 = c at *
  have hc : c < 4294967296 := hx
  go_enter Tryz.func88, Tryz.ntmps88
  go_wp2_with fail
  refine (unhide HN).mono ?_
  rintro r w1 ⟨rfl, hf1⟩
  obtain ⟨h2, hGG⟩ := unhide HG w1 hf1
  have z1 : w1.cell? ⟨X, 5, none⟩ = some (.int .u32 (check : Nat)) := blk_cell h2 5 _ rfl
  have HGG := hide hGG
  clear h2 hf1 HG HN hGG
  by_cases hok : c = check
  ·have hb : ((c : Int) == (check : Int)) = true := beq_iff_eq.2 (by omega)
   have HEE := hide (show e = 0 by rw [unhide HE, if_pos hok])
   clear HE hok
   go_wp2_with fail
   refine (holds_any true 12 _).mono ?_
   rintro r w2 ⟨rfl, rfl⟩
   go_wp2_with fail
   go_ret2
   have h9 := unhide HGG
   rw [unhide HEE] at h9
   rw [unhide HEE]
   exact h9
  ·have hb : ((c : Int) == (check : Int)) = false := beq_eq_false_iff_ne.2 (by omega)
   have HEE := hide (show e = 12 by rw [unhide HE, if_neg hok])
   clear HE hok
   go_wp2_with fail
   refine (holds_any false 12 _).mono ?_
   rintro r w2 ⟨rfl, rfl⟩
   go_wp2_with fail
   go_ret2
   have h9 := unhide HGG
   rw [unhide HEE] at h9
   rw [unhide HEE]
   exact h9
 ·have HN := hide (feedNum_miss f g off cap z p 32 B w h.feed h.src h.gf (by omega) h.here (by omega))
  have HF := hide h.feed
  have HG := hide (show ∀ w', FeedAt w' f (.slice (fedA g off B.length) B.length cap) (8 * B.length) z → Step (· = f) w w' → GzTo 32 p B f (.slice (fedA g off B.length) B.length cap) z X D d fl left head lv check size parts vo nm true e (fun k => k = f ∨ k = X) w lost w' from fun w' h1 h2 => .inr ⟨by omega, rfl, h1, h2⟩)
  clear h hlt
  go_enter Tryz.func88, Tryz.ntmps88
  go_wp2_with fail
  refine (unhide HN).mono ?_
  rintro r w1 ⟨rfl, hf1⟩
  have HGG := hide (unhide HG w1 (hf1.feed _ _ _ _ (unhide HF)) hf1.step)
  clear hf1 HN HF HG
  go_wp2_with fail
  exact ⟨rfl, unhide HGG⟩
theorem sizeHolds_any (X D f d g off cap z p fl left head check size : Nat) (lv : Value) (B : List Nat) (parts vo : Value) (nm : ByteArray) (w : World) (h : GIn w X D f d g off cap z p fl left head lv check size B parts vo nm) (e : Nat) (he : e = if (numAt B p 32) = size then 0 else 12) :
  Calls Tryz.prog 89 #[.pointer (some ⟨X, 0, none⟩)] w (GzTo 32 p B f (.slice (fedA g off B.length) B.length cap) z X D d fl left head lv check size parts vo nm true e (fun k => k = f ∨ k = X) w) := by
 have c0 : w.cell? ⟨X, 0, none⟩ = some (.pointer (some ⟨D, 0, none⟩)) := blk_cell h.gz 0 _ rfl
 have d0 : w.cell? ⟨D, 0, none⟩ = some (.pointer (some ⟨f, 0, none⟩)) := blk_cell h.dec 0 _ rfl
 have HE := hide he
 clear he
 by_cases hlt : p + 32 ≤ 8 * B.length
 ·have hx := numAt_lt B p 32
  have HN := hide (feedNum_ok f g off cap z p 32 B w h.feed h.src h.gf (by omega) hlt)
  have HG := hide (show ∀ w', Fed f w w' (p + 32) → GzAt w' X D fl left head lv check size ∧ GzTo 32 p B f (.slice (fedA g off B.length) B.length cap) z X D d fl left head lv check size parts vo nm true e (fun k => k = f ∨ k = X) w (.returned (.tuple #[.bool true, .int .i64 (e : Nat)])) w' from fun w' h1 => by
   have h2 := h1.step.at_ h.gz h.Xf
   exact ⟨h2, .inl ⟨hlt, h1.feed _ _ _ _ h.feed, rfl, h2, h1.step.at_ h.dec h.Df, h1.step.mono (fun k x => .inl x)⟩⟩)
  have hh := h.hh
  clear h hlt
  generalize numAt B p 32 = c at *
  have hc : c < 4294967296 := hx
  go_enter Tryz.func89, Tryz.ntmps89
  go_wp2_with fail
  refine (unhide HN).mono ?_
  rintro r w1 ⟨rfl, hf1⟩
  obtain ⟨h2, hGG⟩ := unhide HG w1 hf1
  have z1 : w1.cell? ⟨X, 6, none⟩ = some (.int .u32 (size : Nat)) := blk_cell h2 6 _ rfl
  have HGG := hide hGG
  clear h2 hf1 HG HN hGG
  by_cases hok : c = size
  ·have hb : ((c : Int) == (size : Int)) = true := beq_iff_eq.2 (by omega)
   have HEE := hide (show e = 0 by rw [unhide HE, if_pos hok])
   clear HE hok
   go_wp2_with fail
   refine (holds_any true 12 _).mono ?_
   rintro r w2 ⟨rfl, rfl⟩
   go_wp2_with fail
   go_ret2
   have h9 := unhide HGG
   rw [unhide HEE] at h9
   rw [unhide HEE]
   exact h9
  ·have hb : ((c : Int) == (size : Int)) = false := beq_eq_false_iff_ne.2 (by omega)
   have HEE := hide (show e = 12 by rw [unhide HE, if_neg hok])
   clear HE hok
   go_wp2_with fail
   refine (holds_any false 12 _).mono ?_
   rintro r w2 ⟨rfl, rfl⟩
   go_wp2_with fail
   go_ret2
   have h9 := unhide HGG
   rw [unhide HEE] at h9
   rw [unhide HEE]
   exact h9
 ·have HN := hide (feedNum_miss f g off cap z p 32 B w h.feed h.src h.gf (by omega) h.here (by omega))
  have HF := hide h.feed
  have HG := hide (show ∀ w', FeedAt w' f (.slice (fedA g off B.length) B.length cap) (8 * B.length) z → Step (· = f) w w' → GzTo 32 p B f (.slice (fedA g off B.length) B.length cap) z X D d fl left head lv check size parts vo nm true e (fun k => k = f ∨ k = X) w lost w' from fun w' h1 h2 => .inr ⟨by omega, rfl, h1, h2⟩)
  clear h hlt
  go_enter Tryz.func89, Tryz.ntmps89
  go_wp2_with fail
  refine (unhide HN).mono ?_
  rintro r w1 ⟨rfl, hf1⟩
  have HGG := hide (unhide HG w1 (hf1.feed _ _ _ _ (unhide HF)) hf1.step)
  clear hf1 HN HF HG
  go_wp2_with fail
  exact ⟨rfl, unhide HGG⟩
end Go.Proofs.YtbpahojchgpdnaaGreatDoor
namespace Go.Proofs.YtbpahojchgpdnaaGreatDoor
open Go.RowKit Go.Bel Go.Maps
theorem extraSize_any (X D f d g off cap z p fl left head check size : Nat) (lv : Value) (B : List Nat) (parts vo : Value) (nm : ByteArray) (w : World) (h : GIn w X D f d g off cap z p fl left head lv check size B parts vo nm) :
  Calls Tryz.prog 83 #[.pointer (some ⟨X, 0, none⟩)] w (GzTo 16 p B f (.slice (fedA g off B.length) B.length cap) z X D d fl (numAt B p 16) (crcWith head [numAt B p 16 % 256, numAt B p 16 / 256]) lv check size parts vo nm true 0 (fun k => k = f ∨ k = X) w) := by
 have c0 : w.cell? ⟨X, 0, none⟩ = some (.pointer (some ⟨D, 0, none⟩)) := blk_cell h.gz 0 _ rfl
 have d0 : w.cell? ⟨D, 0, none⟩ = some (.pointer (some ⟨f, 0, none⟩)) := blk_cell h.dec 0 _ rfl
 by_cases hlt : p + 16 ≤ 8 * B.length
 ·have hx := numAt_lt B p 16
  have HN := hide (feedNum_ok f g off cap z p 16 B w h.feed h.src h.gf (by omega) hlt)
  have hh := h.hh
  have HH := hide h
  clear h
  generalize numAt B p 16 = c at *
  have hc : c < 65536 := hx
  go_enter Tryz.func83, Tryz.ntmps83
  go_wp2_with fail
  refine (unhide HN).mono ?_
  rintro r w1 ⟨rfl, hf1⟩
  have h2 := hf1.step.at_ (unhide HH).gz (unhide HH).Xf
  have z1 : w1.cell? ⟨X, 3, none⟩ = some (.int .u32 (head : Nat)) := blk_cell h2 3 _ rfl
  have zf : w1.frozen? ⟨X, 3, none⟩ = false := blk_free h2 3
  have H2 := hide h2
  have HF1 := hide hf1
  clear h2 hf1 HN
  go_wp2_with fail
  obtain ⟨w2, hw2⟩ : ∃ w2, w2 = w1.alloc (.cells #[.int .u8 ((c : Int) % 256), .int .u8 ((c : Int) / 256)] 5) := ⟨_, rfl⟩
  have hs2 : Step (fun _ => False) w1 w2 := by rw [hw2]; exact (Step.refl _ _).alloc _
  have hb2 : BytesV w2 (.slice (some ⟨w1.heap.size, 0, none⟩) 2 2) [c % 256, c / 256] := .inr ⟨w1.heap.size, 0, 2, rfl, fun i hi => by
   have hblk : w2.heap[w1.heap.size]? = some (.cells #[.int .u8 ((c : Int) % 256), .int .u8 ((c : Int) / 256)] 5 (0, 0)) := by rw [hw2]; exact heap_alloc_new _ _
   have hi2 : i < 2 := hi
   match i, hi2 with
   | 0, _ => exact blk_cell hblk 0 _ (by simp)
   | 1, _ => exact blk_cell hblk 1 _ (by simp)⟩
  rw [← hw2]
  clear hw2
  refine (checkWith_any head (.slice (some ⟨w1.heap.size, 0, none⟩) 2 2) [c % 256, c / 256] w2 hh hb2 (by intro y hy; simp at hy; omega) (by simp)).mono ?_
  rintro r w3 ⟨rfl, rfl⟩
  have hx3 := hs2.at_ (unhide H2) (fun x => x)
  have y3 : w3.cell? ⟨X, 3, none⟩ = some (.int .u32 (head : Nat)) := blk_cell hx3 3 _ rfl
  have yf : w3.frozen? ⟨X, 3, none⟩ = false := blk_free hx3 3
  have y2 : w3.cell? ⟨X, 2, none⟩ = some (.int .i64 (left : Nat)) := blk_cell hx3 2 _ rfl
  have yf2 : w3.frozen? ⟨X, 2, none⟩ = false := blk_free hx3 2
  have hXl := lt_of_block hx3
  have HFIN := hide (show ∀ u : Nat, u = crcWith head [c % 256, c / 256] → GzTo 16 p B f (.slice (fedA g off B.length) B.length cap) z X D d fl c (crcWith head [c % 256, c / 256]) lv check size parts vo nm true 0 (fun k => k = f ∨ k = X) w (.returned (.tuple #[.bool true, .int .i64 ((0 : Nat) : Int)])) ((w3.setCell ⟨X, 3, none⟩ (.int .u32 (u : Nat))).setCell ⟨X, 2, none⟩ (.int .i64 (c : Nat))) from fun u hu => by
   subst hu
   have hs3 : Step (· = X) w3 ((w3.setCell ⟨X, 3, none⟩ (.int .u32 (crcWith head [c % 256, c / 256] : Nat))).setCell ⟨X, 2, none⟩ (.int .i64 (c : Nat))) := ((Step.refl (· = X) w3).setCell (p := ⟨X, 3, none⟩) rfl _).setCell (p := ⟨X, 2, none⟩) rfl _
   have hst : Step (fun k => k = f ∨ k = X) w ((w3.setCell ⟨X, 3, none⟩ (.int .u32 (crcWith head [c % 256, c / 256] : Nat))).setCell ⟨X, 2, none⟩ (.int .i64 (c : Nat))) := (((unhide HF1).step.mono (fun k x => .inl x)).trans (hs2.mono (fun _ x => x.elim))).trans (hs3.mono (fun k x => .inr x))
   refine .inl ⟨hlt, hs3.at_ (hs2.at_ ((unhide HF1).feed _ _ _ _ (unhide HH).feed) (fun x => x)) (fun x => (unhide HH).Xf x.symm), rfl, ?_, hst.at_ (unhide HH).dec (fun x => x.elim (unhide HH).Df (unhide HH).DX), hst⟩
   have h8 := blk_set hx3 3 (.int .u32 (crcWith head [c % 256, c / 256] : Nat))
   have h9 := blk_set h8 2 (.int .i64 (c : Nat))
   simpa using h9)
  clear hx3 hs2 hb2 H2 HF1 hlt HH
  go_wp2_with fail
  go_ret2
  exact unhide HFIN _ rfl
 ·have HN := hide (feedNum_miss f g off cap z p 16 B w h.feed h.src h.gf (by omega) h.here (by omega))
  have HF := hide h.feed
  have HG := hide (show ∀ w', FeedAt w' f (.slice (fedA g off B.length) B.length cap) (8 * B.length) z → Step (· = f) w w' → GzTo 16 p B f (.slice (fedA g off B.length) B.length cap) z X D d fl (numAt B p 16) (crcWith head [numAt B p 16 % 256, numAt B p 16 / 256]) lv check size parts vo nm true 0 (fun k => k = f ∨ k = X) w lost w' from fun w' h1 h2 => .inr ⟨by omega, rfl, h1, h2⟩)
  clear h hlt
  go_enter Tryz.func83, Tryz.ntmps83
  go_wp2_with fail
  refine (unhide HN).mono ?_
  rintro r w1 ⟨rfl, hf1⟩
  have HGG := hide (unhide HG w1 (hf1.feed _ _ _ _ (unhide HF)) hf1.step)
  clear hf1 HN HF HG
  go_wp2_with fail
  exact ⟨rfl, unhide HGG⟩
end Go.Proofs.YtbpahojchgpdnaaGreatDoor
namespace Go.Proofs.YtbpahojchgpdnaaGreatDoor
open Go.RowKit Go.Bel Go.Maps
theorem with_no (a b c X D fl flag left head check size : Nat) (lv : Value) (w : World) (hX : GzAt w X D fl left head lv check size) (ha : w.cell? ⟨a, 0, none⟩ = some (.pointer (some ⟨X, 0, none⟩))) (hb : w.cell? ⟨b, 0, none⟩ = some (.int .i64 (flag : Nat))) (hf : bits .and .i64 (fl : Int) (flag : Int) = 0) :
  Calls Tryz.prog 123 #[.pointer (some ⟨a, 0, none⟩), .pointer (some ⟨b, 0, none⟩), .pointer (some ⟨c, 0, none⟩)] w fun r w' => r = .returned (.tuple #[.bool true, .int .i64 ((0 : Nat) : Int)]) ∧ Step (fun _ => False) w w' := by
 have c1 : w.cell? ⟨X, 1, none⟩ = some (.int .i64 (fl : Nat)) := blk_cell hX 1 _ rfl
 clear hX
 go_enter Tryz.func123, Tryz.ntmps123
 go_wp2_with fail
 go_region
 go_wp2_with fail
 go_ret2
 exact ⟨rfl, (Step.refl _ _).drew⟩
theorem with_yes (a b c X D fl flag left head check size id : Nat) (lv : Value) (w : World) (Q : Ending → World → Prop) (hX : GzAt w X D fl left head lv check size) (ha : w.cell? ⟨a, 0, none⟩ = some (.pointer (some ⟨X, 0, none⟩))) (hb : w.cell? ⟨b, 0, none⟩ = some (.int .i64 (flag : Nat))) (hc : w.cell? ⟨c, 0, none⟩ = some (.func (.func id) #[.pointer (some ⟨X, 0, none⟩)] #[])) (hf : (bits .and .i64 (fl : Int) (flag : Int) == 0) = false)
  (hcf : ∀ w, (callFunc id #[.pointer (some ⟨X, 0, none⟩)]).run Tryz.prog w = .ok (.enter id #[.pointer (some ⟨X, 0, none⟩)]) w)
  (hQ : ∀ w1, Step (fun _ => False) w w1 → Calls Tryz.prog id #[.pointer (some ⟨X, 0, none⟩)] w1 fun r w' => ((∃ (thr : Bool) (e : Nat), r = .returned (.tuple #[.bool thr, .int .i64 (e : Nat)])) ∨ r = lost) ∧ Q r w') :
  Calls Tryz.prog 123 #[.pointer (some ⟨a, 0, none⟩), .pointer (some ⟨b, 0, none⟩), .pointer (some ⟨c, 0, none⟩)] w Q := by
 have c1 : w.cell? ⟨X, 1, none⟩ = some (.int .i64 (fl : Nat)) := blk_cell hX 1 _ rfl
 have HQ := hide hQ
 clear hX hQ
 go_enter Tryz.func123, Tryz.ntmps123
 go_wp2_with fail
 go_region
 go_wp2_with fail
 refine (unhide HQ _ ((Step.refl _ _).drew)).mono ?_
 rintro r w1 ⟨⟨thr, e, rfl⟩ | rfl, hq⟩
 ·have HQQ := hide hq
  clear hq HQ
  go_wp2_with fail
  exact unhide HQQ
 ·have HQQ := hide hq
  clear hq HQ
  go_wp2_with fail
  exact ⟨rfl, unhide HQQ⟩
end Go.Proofs.YtbpahojchgpdnaaGreatDoor
