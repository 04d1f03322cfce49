/- Proved here: what the library's stable sort does to parcels. -/
import Derived.Test.YtbpahojchgpdnaaGreatDoorMerges
import Derived.Test.YtbpahojchgpdnaaGreatDoorSlices
import Derived.Deep.RegionLaw
set_option maxRecDepth 20000
set_option maxHeartbeats 4000000
namespace Go.Bel
inductive Chunks (k : Nat) : List Pe → List Pe → Prop
 | last (A : List Pe) (h : A.length ≤ k) : Chunks k A (stabE A)
 | cons (A X Y : List Pe) (h : A.length = k) (t : Chunks k X Y) : Chunks k (A ++ X) (stabE A ++ Y)
inductive Fulls (k : Nat) : List Pe → List Pe → Prop
 | nil : Fulls k [] []
 | cons (A X Y : List Pe) (h : A.length = k) (t : Fulls k X Y) : Fulls k (A ++ X) (stabE A ++ Y)
theorem Fulls.snoc {k : Nat} {C D A : List Pe} (h : Fulls k C D) (hA : A.length = k) : Fulls k (C ++ A) (D ++ stabE A) := by
 induction h with
 | nil => have := Fulls.cons A [] [] hA .nil; simpa using this
 | cons B X Y hb t ih => have := Fulls.cons B _ _ hb ih; simpa using this
theorem Fulls.end {k : Nat} {C D A : List Pe} (h : Fulls k C D) (hA : A.length ≤ k) : Chunks k (C ++ A) (D ++ stabE A) := by
 induction h with
 | nil => exact .last A hA
 | cons B X Y hb t ih => have := Chunks.cons B _ _ hb ih; simpa using this
theorem Fulls.length {k : Nat} {C D : List Pe} (h : Fulls k C D) : D.length = C.length := by
 induction h with
 | nil => rfl
 | cons B X Y hb t ih => simp [stabE_length, ih]
theorem Chunks.length {k : Nat} {C D : List Pe} (h : Chunks k C D) : D.length = C.length := by
 induction h with
 | last A h => exact stabE_length A
 | cons B X Y hb t ih => simp [stabE_length, ih]
theorem Chunks.all {k : Nat} {X Y : List Pe} (h : Chunks k X Y) (hx : X.length ≤ k) : Y = stabE X := by
 cases h with
 | last A h => rfl
 | cons A X Y hA t =>
  have h0 : X = [] := List.eq_nil_of_length_eq_zero (by simp at hx; omega)
  subst h0
  have h1 : Y = [] := List.eq_nil_of_length_eq_zero (by rw [t.length]; rfl)
  rw [h1]; simp
theorem Chunks.split {k : Nat} {X Y : List Pe} (h : Chunks k X Y) (hx : k ≤ X.length) : ∃ A X' Y', X = A ++ X' ∧ A.length = k ∧ Y = stabE A ++ Y' ∧ Chunks k X' Y' := by
 cases h with
 | last A h => exact ⟨X, [], [], by simp, by omega, by simp, Chunks.last [] (by simp)⟩
 | cons A X Y hA t => exact ⟨A, X, Y, rfl, hA, rfl, t⟩
end Go.Bel
namespace Go.Proofs.YtbpahojchgpdnaaGreatDoor
open Go.RowKit Go.Shelf Go.Lib Go.Sort Go.Bel
set_option maxRecDepth 100000 in
theorem ins_ok (blk off cap a b : Nat) (P X S l0 : List Pe) (w0 w : World) (R : RowK Pe.enc 2 w0 blk off l0.toArray) (hs : l0.length = (P ++ X ++ S).length) (H : SwE w0 blk off (P ++ X ++ S) w)
  (ha : a = P.length) (hb : b = P.length + X.length) (hsz : l0.length < 4611686018427387904) :
  Calls Tryz.prog 221 #[.slice (some ⟨blk, off, none⟩) l0.length cap, .int .i64 (a : Nat), .int .i64 (b : Nat), fvE] w fun e w' => e = .returned (.tuple #[]) ∧ SwE w0 blk off (P ++ stabE X ++ S) w' := by
 have hsz2 : (P ++ X ++ S).toArray.size = l0.length := by rw [hs]; simp
 have h := AnyQ.insertionSortCmpFunc Tryz.insLaid 2 (fun _ => rfl) (fun _ => rfl) Pe.enc encE_len encE_one cfE 208 #[] blk off cap a b (P ++ X ++ S).toArray w
  (fun _ _ => rfl) (cmpE _ _ _ _) (SWK.holds H R.hblk R.hH (by rw [hsz2]; simp)) (SWK.lt H R.hblk) (by omega) (by rw [hsz2, hs]; simp; omega) (by rw [hsz2]; exact hsz)
 rw [hsz2] at h
 refine h.mono ?_
 rintro e w' ⟨rfl, n, os, rfl⟩
 refine ⟨rfl, ?_⟩
 rw [ltE, ha, hb, insSort_list]
 exact SWK.on H R.hblk _ _ _ (by simp [stabE_length])
set_option maxHeartbeats 8000000 in
set_option maxRecDepth 1000000 in
theorem stable_ok (blk off cap : Nat) (l0 : List Pe) (w0 w : World) (R : RowK Pe.enc 2 w0 blk off l0.toArray) (H : SwE w0 blk off l0 w) (hsz : l0.length < 1073741824) :
  Calls Tryz.prog 216 #[.slice (some ⟨blk, off, none⟩) l0.length cap, .int .i64 (l0.length : Nat), fvE] w fun e w' => e = .returned (.tuple #[]) ∧ SwE w0 blk off (stabE l0) w' := by
 have H0 := hide H
 have HR := hide R
 have ci : ∀ (a b : Nat) (P X S : List Pe) (W : World), (P ++ X ++ S).length = l0.length → SwE w0 blk off (P ++ X ++ S) W → a = P.length → b = P.length + X.length →
   Calls Tryz.prog 221 #[.slice (some ⟨blk, off, none⟩) l0.length cap, .int .i64 (a : Nat), .int .i64 (b : Nat), .func (.func 208) #[] #[]] W fun e w' => e = .returned (.tuple #[]) ∧ SwE w0 blk off (P ++ stabE X ++ S) w' :=
  fun a b P X S W h1 h2 h3 h4 => ins_ok blk off cap a b P X S l0 w0 W R h1.symm h2 h3 h4 (by omega)
 have cm : ∀ (a m b : Nat) (P A B S : List Pe) (W : World), (P ++ stabE A ++ stabE B ++ S).length = l0.length → SwE w0 blk off (P ++ stabE A ++ stabE B ++ S) W → a = P.length → m = P.length + A.length → b = P.length + A.length + B.length → 0 < A.length → 0 < B.length →
   Calls Tryz.prog 222 #[.slice (some ⟨blk, off, none⟩) l0.length cap, .int .i64 (a : Nat), .int .i64 (m : Nat), .int .i64 (b : Nat), .func (.func 208) #[] #[]] W fun e w' => e = .returned (.tuple #[]) ∧ SwE w0 blk off (P ++ stabE (A ++ B) ++ S) w' :=
  fun a m b P A B S W h1 h2 h3 h4 h5 h6 h7 => by
   rw [stabE_append]
   exact symMerge_any _ blk off cap a m b P (stabE A) (stabE B) S l0 w0 W R h1.symm h2 h3 (by rw [stabE_length]; exact h4) (by rw [stabE_length, stabE_length]; exact h5) (by rw [stabE_length]; exact h6) (by rw [stabE_length]; exact h7) (stabE_sorted A) (stabE_sorted B) (Nat.le_refl _) (by omega)
 have CI := hide ci
 have CM := hide cm
 obtain ⟨n, hn⟩ : ∃ n, l0.length = n := ⟨_, rfl⟩
 rw [hn] at CI CM hsz ⊢
 have HN := hide hn
 clear H R ci cm hn
 unfold fvE
 go_enter Tryz.func216, Tryz.ntmps216
 go_wp2_with fail
 go_loopg [7, 8] n (fun kx s7 s8 wr => ∃ (a : Nat) (C X D : List Pe), s7 = .int .i64 (a : Nat) ∧ s8 = .int .i64 ((a + 20 : Nat) : Int) ∧ a ≤ n ∧ kx = n - a ∧ Hid (l0 = C ++ X ∧ a = C.length ∧ Fulls 20 C D) ∧ Hid (SwE w0 blk off (D ++ X) wr))
 case atStart => exact ⟨0, [], l0, [], rfl, rfl, by omega, rfl, ⟨rfl, rfl, .nil⟩, H0⟩
 case round =>
  clear H0
  obtain ⟨a, C, X, D, rfl, rfl, han, hkx, HI, HS⟩ := hrel
  by_cases hle : a + 20 ≤ n
  ·obtain ⟨i1, i2, i3⟩ := unhide HI
   obtain ⟨b, hb⟩ : ∃ b, b = a + 20 := ⟨_, rfl⟩
   rw [← hb]
   have hlez : (b : Int) ≤ (n : Int) := by omega
   have hxl : X.length = n - a := by have := unhide HN; rw [i1] at this; simp at this; omega
   have lt : (X.take 20).length = 20 := by rw [List.length_take]; omega
   have k := unhide CI a b D (X.take 20) (X.drop 20) wr (by rw [List.append_assoc, List.take_append_drop]; simp [i3.length]; omega) (by rw [List.append_assoc, List.take_append_drop]; exact unhide HS) (by rw [i3.length]; exact i2) (by rw [i3.length, lt]; omega)
   have n1 : Hid (l0 = (C ++ X.take 20) ++ X.drop 20 ∧ b = (C ++ X.take 20).length ∧ Fulls 20 (C ++ X.take 20) (D ++ stabE (X.take 20))) := ⟨by rw [List.append_assoc, List.take_append_drop]; exact i1, by rw [List.length_append, lt]; omega, i3.snoc lt⟩
   have K := hide k
   have HB := hide hb
   clear i1 i2 i3 hxl lt k hb HI HS
   go_wp2_with (go_at_call 221; refine (unhide K).mono ?_; rintro e w' ⟨rfl, h2⟩)
   go_roundg (n - b)
   case measure => have := unhide HB; omega
   case rel => exact ⟨b, C ++ X.take 20, X.drop 20, D ++ stabE (X.take 20), rfl, by first | rfl | go_num, by omega, rfl, n1, h2⟩
  ·have hlez : ¬ ((a + 20 : Nat) : Int) ≤ (n : Int) := by omega
   obtain ⟨i1, i2, i3⟩ := unhide HI
   have hxl : X.length = n - a := by have := unhide HN; rw [i1] at this; simp at this; omega
   have k := unhide CI a n D X [] wr (by simp [i3.length]; omega) (by simpa using unhide HS) (by rw [i3.length]; exact i2) (by rw [i3.length]; omega)
   have n1 : Hid (Chunks 20 l0 (D ++ stabE X)) := by rw [i1]; exact i3.end (by omega)
   have K := hide k
   clear i1 i2 i3 hxl k HI HS CI
   go_wp2_with (go_at_call 221; refine (unhide K).mono ?_; rintro e w' ⟨rfl, h2⟩)
   obtain ⟨w1, hw1⟩ : ∃ W, W = w' := ⟨_, rfl⟩
   have H1 : Hid (SwE w0 blk off (D ++ stabE X) w1) := by show SwE _ _ _ _ _; rw [hw1]; simpa using h2
   rw [← hw1]
   clear hw1 h2 K
   go_loopg [6, 7, 8, 9] (n - 20) (fun kx s6 s7 s8 s9 wq => ∃ (bs : Nat) (Y : List Pe) (v7 v8 v9 : Value), s6 = .int .i64 (bs : Nat) ∧ s7 = v7 ∧ s8 = v8 ∧ s9 = v9 ∧ 20 ≤ bs ∧ bs ≤ 2147483648 ∧ kx = n - bs ∧ Hid (Chunks bs l0 Y) ∧ Hid (SwE w0 blk off Y wq))
   case atStart => exact ⟨20, _, _, _, _, rfl, rfl, rfl, rfl, by omega, by omega, by omega, n1, H1⟩
   case round =>
    clear H1 n1
    obtain ⟨bs, Y, v7, v8, v9, rfl, rfl, rfl, rfl, hb1, hb2, hkx2, HC, HS⟩ := hrel
    by_cases hlt : bs < n
    ·have hltz : (bs : Int) < (n : Int) := by omega
     have hbz : (bs : Int) ≤ 2147483648 := by omega
     obtain ⟨w2, hw2⟩ : ∃ W, W = wr := ⟨_, rfl⟩
     rw [← hw2] at HS ⊢
     clear hw2
     go_wp2_with fail
     obtain ⟨d, hd⟩ : ∃ d : Nat, (d : Int) = 2 * (bs : Int) := ⟨2 * bs, by omega⟩
     rw [← hd]
     have hd1 : d = 2 * bs := by omega
     have HDD := hide hd1
     have hdz : (2 : Int) * (bs : Int) = (d : Int) := by omega
     have hd2 : d ≤ 2 * 1073741824 := by omega
     clear hd hd1
     go_loopg [7, 8] n (fun kx s7 s8 wq => ∃ (a : Nat) (C X D Z : List Pe), s7 = .int .i64 (a : Nat) ∧ s8 = .int .i64 ((a : Int) + (d : Int)) ∧ a ≤ n ∧ kx = n - a ∧ Hid (l0 = C ++ X ∧ a = C.length ∧ Fulls d C D ∧ Chunks bs X Z) ∧ Hid (SwE w0 blk off (D ++ Z) wq))
     case atStart => exact ⟨0, [], l0, [], Y, rfl, by simp, by omega, rfl, ⟨rfl, rfl, .nil, unhide HC⟩, HS⟩
     case round =>
      clear HC HS
      obtain ⟨a, C, X, D, Z, rfl, rfl, han, hkx3, HI, HS⟩ := hrel
      obtain ⟨i1, i2, i3, i4⟩ := unhide HI
      have hxl : X.length = n - a := by have := unhide HN; rw [i1] at this; simp at this; omega
      have hdd := unhide HDD
      by_cases hle : a + d ≤ n
      ·obtain ⟨b, hb⟩ : ∃ b, b = a + d := ⟨_, rfl⟩
       obtain ⟨m, hm⟩ : ∃ m, m = a + bs := ⟨_, rfl⟩
       have hbz : (a : Int) + (d : Int) = (b : Int) := by omega
       have hmz : (a : Int) + (bs : Int) = (m : Int) := by omega
       rw [hbz]
       have hlez : (b : Int) ≤ (n : Int) := by omega
       obtain ⟨A, X1, Z1, rfl, hA, rfl, t1⟩ := i4.split (by omega)
       rw [List.length_append] at hxl
       obtain ⟨B, X2, Z2, rfl, hB, rfl, t2⟩ := t1.split (by omega)
       rw [List.length_append] at hxl
       have hz2 := t2.length
       have hd3 := i3.length
       have k := unhide CM a m b D A B Z2 wr (by simp only [List.length_append, stabE_length]; omega) (by simpa using unhide HS) (by omega) (by omega) (by omega) (by omega) (by omega)
       have n1 : Hid (l0 = (C ++ (A ++ B)) ++ X2 ∧ b = (C ++ (A ++ B)).length ∧ Fulls d (C ++ (A ++ B)) (D ++ stabE (A ++ B)) ∧ Chunks bs X2 Z2) :=
        ⟨by rw [i1]; simp, by simp only [List.length_append]; omega, i3.snoc (by simp only [List.length_append]; omega), t2⟩
       have K := hide k
       have hbb : b ≤ n := by omega
       have HB := hide hb
       have hbp : a < b := by omega
       clear i1 i2 i3 i4 t1 t2 hxl k hb hbz HI HS hA hB hz2 hd3 hdd hm
       go_wp2_with (go_at_call 222; refine (unhide K).mono ?_; rintro e w' ⟨rfl, h2⟩)
       go_roundg (n - b)
       case measure => omega
       case rel => exact ⟨b, C ++ (A ++ B), X2, D ++ stabE (A ++ B), Z2, rfl, by first | rfl | go_num, hbb, rfl, n1, h2⟩
      ·have hlez : ¬ (a : Int) + (d : Int) ≤ (n : Int) := by omega
       have hd3 := i3.length
       obtain ⟨m, hm⟩ : ∃ m, m = a + bs := ⟨_, rfl⟩
       have hmz : (a : Int) + (bs : Int) = (m : Int) := by omega
       have hdb : (bs : Int) * 2 = (d : Int) := by omega
       by_cases hmn : m < n
       ·have hmnz : (m : Int) < (n : Int) := by omega
        obtain ⟨A, X1, Z1, rfl, hA, rfl, t1⟩ := i4.split (by omega)
        rw [List.length_append] at hxl
        have hz1 := t1.all (by omega)
        subst hz1
        have k := unhide CM a m n D A X1 [] wr (by simp only [List.length_append, stabE_length, List.length_nil]; omega) (by simpa using unhide HS) (by omega) (by omega) (by omega) (by omega) (by omega)
        have n1 : Hid (Chunks d l0 (D ++ stabE (A ++ X1))) := by show Chunks d l0 _; rw [i1]; exact i3.end (by simp only [List.length_append]; omega)
        have K := hide k
        have hdk : n - d < n - bs := by omega
        have hd4 : 20 ≤ d ∧ d ≤ 2147483648 := by omega
        clear i1 i2 i3 i4 t1 hxl k HI HS hA hd3 hdd hm
        go_wp2_with (go_at_call 222; refine (unhide K).mono ?_; rintro e w' ⟨rfl, h2⟩)
        go_roundg (n - d)
        case measure => omega
        case rel => exact ⟨d, D ++ stabE (A ++ X1), _, _, _, by first | rfl | go_num, rfl, rfl, rfl, hd4.1, hd4.2, rfl, n1, by have := h2; simp only [List.append_nil] at this; exact this⟩
       ·have hmnz : ¬ (m : Int) < (n : Int) := by omega
        have hz1 := i4.all (by omega)
        subst hz1
        have n1 : Hid (Chunks d l0 (D ++ stabE X)) := by show Chunks d l0 _; rw [i1]; exact i3.end (by omega)
        have hdk : n - d < n - bs := by omega
        have hd4 : 20 ≤ d ∧ d ≤ 2147483648 := by omega
        clear i1 i2 i3 i4 hxl HI hd3 hdd hm
        go_wp2_with fail
        go_roundg (n - d)
        case measure => omega
        case rel => exact ⟨d, D ++ stabE X, _, _, _, by first | rfl | go_num, rfl, rfl, rfl, hd4.1, hd4.2, rfl, n1, HS⟩
    ·have hltz : ¬ (bs : Int) < (n : Int) := by omega
     have hfin : Hid (SwE w0 blk off (stabE l0) wr) := by
      have h1 := (unhide HC).all (by have := unhide HN; omega)
      rw [← h1]
      exact unhide HS
     clear HC HS
     go_wp2_with fail
     go_end0
     exact ⟨rfl, unhide hfin⟩
end Go.Proofs.YtbpahojchgpdnaaGreatDoor
namespace Go.Proofs.YtbpahojchgpdnaaGreatDoor
open Go.RowKit Go.Shelf Go.Lib Go.Sort Go.Bel
def cellsE : List Pe → List Value
 | [] => []
 | p :: l => .int .i64 (p.c : Nat) :: p.v :: cellsE l
theorem cellsE_length : ∀ l : List Pe, (cellsE l).length = l.length * 2
 | [] => rfl
 | p :: l => by simp [cellsE, cellsE_length l]; omega
theorem cellsE_append : ∀ l r : List Pe, cellsE (l ++ r) = cellsE l ++ cellsE r
 | [], r => rfl
 | p :: l, r => by simp [cellsE, cellsE_append l r]
theorem cellsE_one : ∀ (l : List Pe) (u : Value), u ∈ cellsE l → u.oneCell' = true
 | [], u, h => by simp [cellsE] at h
 | p :: l, u, h => by
  simp only [cellsE, List.mem_cons] at h
  rcases h with rfl | rfl | h
  ·rfl
  ·rfl
  ·exact cellsE_one l u h
theorem cellsE_get : ∀ (l : List Pe) (i : Nat), i < l.length → (cellsE l)[i * 2]? = some (.int .i64 ((atE l i).c : Nat)) ∧ (cellsE l)[i * 2 + 1]? = some (atE l i).v
 | [], i, h => by simp at h
 | p :: l, 0, h => ⟨rfl, rfl⟩
 | p :: l, i + 1, h => by
  have h2 := cellsE_get l i (by simpa using h)
  rw [show (i + 1) * 2 = i * 2 + 1 + 1 by omega]
  exact h2
def PesAt (w : World) (g : Nat) (l : List Pe) : Prop := ∀ i, i < l.length → w.cell? ⟨g, i * 2, none⟩ = some (.int .i64 ((atE l i).c : Nat)) ∧ w.cell? ⟨g, i * 2 + 1, none⟩ = some (atE l i).v ∧ w.frozen? ⟨g, i * 2, none⟩ = false ∧ w.frozen? ⟨g, i * 2 + 1, none⟩ = false
theorem PesAt.holds {w : World} {g : Nat} {l : List Pe} (h : PesAt w g l) : HoldsK Pe.enc 2 w g 0 l.toArray := by
 intro j hj
 rw [size_flatK] at hj
 rw [get_flatK _ _ _ _ hj, bang_atE, Nat.zero_add]
 have hl : j / 2 < l.length := by simp at hj; omega
 obtain ⟨h0, h1, f0, f1⟩ := h (j / 2) hl
 rcases Nat.mod_two_eq_zero_or_one j with e | e
 ·rw [show j / 2 * 2 = j by omega] at h0 f0
  rw [e]
  exact ⟨h0, f0⟩
 ·rw [show j / 2 * 2 + 1 = j by omega] at h1 f1
  rw [e]
  exact ⟨h1, f1⟩
theorem PesAt.of_holds {w : World} {g : Nat} {l : List Pe} (h : HoldsK Pe.enc 2 w g 0 l.toArray) : PesAt w g l := by
 intro i hi
 have hi' : i < l.toArray.size := by simpa using hi
 have h0 := h.cell hi' (show 0 < 2 by omega)
 have h1 := h.cell hi' (show 1 < 2 by omega)
 rw [bang_atE, Nat.zero_add] at h0 h1
 exact ⟨h0.1, h1.1, h0.2, h1.2⟩
theorem PesAt.cells {w : World} {g : Nat} {l : List Pe} (h : PesAt w g l) (j : Nat) (u : Value) (hu : (cellsE l)[j]? = some u) : w.cell? ⟨g, j, none⟩ = some u := by
 have hl := List.getElem?_eq_some_iff.1 hu |>.1
 rw [cellsE_length] at hl
 obtain ⟨h0, h1, _, _⟩ := h (j / 2) (by omega)
 obtain ⟨e0, e1⟩ := cellsE_get l (j / 2) (by omega)
 rcases Nat.mod_two_eq_zero_or_one j with e | e
 ·rw [show j / 2 * 2 = j by omega] at h0 e0
  rw [e0] at hu
  rw [h0, ← hu]
 ·rw [show j / 2 * 2 + 1 = j by omega] at h1 e1
  rw [e1] at hu
  rw [h1, ← hu]
theorem PesAt.of_cells {w : World} {g : Nat} {l : List Pe} (h : ∀ j u, (cellsE l)[j]? = some u → w.cell? ⟨g, j, none⟩ = some u) (f : ∀ j, j < l.length * 2 → w.frozen? ⟨g, j, none⟩ = false) : PesAt w g l := by
 intro i hi
 obtain ⟨e0, e1⟩ := cellsE_get l i hi
 exact ⟨h _ _ e0, h _ _ e1, f _ (by omega), f _ (by omega)⟩
theorem PesAt.step {w w' : World} {g : Nat} {l : List Pe} {S : Nat → Prop} (h : PesAt w g l) (hs : Step S w w') (hg : ¬ S g) (hb : g < w.heap.size) : PesAt w' g l := by
 intro i hi
 obtain ⟨h0, h1, f0, f1⟩ := h i hi
 have e := hs.block g hb hg
 exact ⟨(World.cell?_of_block (w := w) e).trans h0, (World.cell?_of_block (w := w) e).trans h1, (World.frozen?_of_block (w := w) e).trans f0, (World.frozen?_of_block (w := w) e).trans f1⟩
def PesIn (w : World) (v : Value) (l : List Pe) : Prop := (v = .slice none 0 0 ∧ l = []) ∨ ∃ g cap, v = .slice (some ⟨g, 0, none⟩) l.length cap ∧ l.length ≤ cap ∧ g < w.heap.size ∧ PesAt w g l
theorem PesIn.step {w w' : World} {v : Value} {l : List Pe} (h : PesIn w v l) (hs : Step (fun _ => False) w w') : PesIn w' v l := by
 rcases h with h | ⟨g, cap, h1, h2, h3, h4⟩
 ·exact .inl h
 ·exact .inr ⟨g, cap, h1, h2, by have := hs.size; omega, h4.step hs (fun y => y) h3⟩
theorem PesIn.of_owns {w : World} {base : Nat} {v : Value} {l : List Pe} (h : w.ownsRow base 243 2 v l.length (cellsE l)) : PesIn w v l := by
 have h0 := h
 obtain ⟨hl, ⟨hv, hn⟩ | ⟨g, cap, cur, hv, hg, hh, hnc, hcm, hsz, ht⟩⟩ := h
 ·exact .inl ⟨hv, List.eq_nil_of_length_eq_zero hn⟩
 ·refine .inr ⟨g, cap, hv, hnc, lt_of_block hh, PesAt.of_cells (fun j u hu => ?_) (fun j hj => ?_)⟩
  ·refine blk_cell hh j u ?_
   have hj := List.getElem?_eq_some_iff.1 hu |>.1
   rw [cellsE_length] at hj
   rw [← ht, List.getElem?_take_of_lt hj] at hu
   rw [← hu]; simp
  ·exact blk_free hh j
def SyAt (w : World) (p : Pe) : Prop := p.s.length ≤ p.cap ∧ p.g < w.heap.size ∧ ∀ j x, p.s[j]? = some x → w.cell? ⟨p.g, j, none⟩ = some (.int .i64 (x : Nat))
theorem SyAt.step {w w' : World} {p : Pe} {S : Nat → Prop} (h : SyAt w p) (hs : Step S w w') (hg : ¬ S p.g) : SyAt w' p :=
 ⟨h.1, by have := hs.size; have := h.2.1; omega, fun j x hx => (World.cell?_of_block (w := w) (hs.block p.g h.2.1 hg)).trans (h.2.2 j x hx)⟩
theorem SwE.step {w0 W : World} {blk off : Nat} {l : List Pe} (h : SwE w0 blk off l W) : Step (fun k => k = blk) w0 W := by
 obtain ⟨n, os, rfl⟩ := h
 refine ⟨rfl, rfl, rfl, ?_, fun k hk hn => ?_⟩
 ·simp [sortWorldK, grow, putRowK, putRow, mapBlock]
 ·simp only [sortWorldK, grow, putRowK, putRow, mapBlock]
  rw [Array.getElem?_append_left (by simpa using hk), Array.getElem?_modify, if_neg (fun e => hn e.symm)]
  rfl
end Go.Proofs.YtbpahojchgpdnaaGreatDoor
namespace Go.Bel
structure Pt where
 v : Value
 m : Nat
 xs : List Value
def Pt.ok (w : World) (size : Nat) (p : Pt) : Prop := p.xs.length = p.m * size ∧ (∀ u ∈ p.xs, u.oneCell' = true) ∧ ∃ ao c, p.v = .slice ao p.m c ∧ (ao = none → p.m = 0 ∧ c = 0) ∧ ∀ ad, ao = some ad → ∀ j u, p.xs[j]? = some u → w.cell? (ad.add j) = some u
def sumM (R : List Pt) (j : Nat) : Nat := ((R.take j).map (·.m)).sum
def allM (R : List Pt) : List Value := R.flatMap (·.xs)
theorem sumM_succ {R : List Pt} {j : Nat} {r : Pt} (h : R[j]? = some r) : sumM R (j + 1) = sumM R j + r.m := by
 unfold sumM
 rw [List.take_add_one, h]
 simp
theorem allM_succ {R : List Pt} {j : Nat} {r : Pt} (h : R[j]? = some r) : allM (R.take (j + 1)) = allM (R.take j) ++ r.xs := by
 unfold allM
 rw [List.take_add_one, h]
 simp
theorem sumM_mono (R : List Pt) (j d : Nat) : sumM R j ≤ sumM R (j + d) := by
 induction d with
 | zero => exact Nat.le_refl _
 | succ d ih =>
  refine Nat.le_trans ih ?_
  cases h : R[j + d]? with
  | none =>
   have : sumM R (j + d + 1) = sumM R (j + d) := by unfold sumM; rw [List.take_add_one, h]; simp
   rw [← Nat.add_assoc, this]
   exact Nat.le_refl _
  | some r => rw [← Nat.add_assoc, sumM_succ h]; omega
end Go.Bel
namespace Go.Proofs.YtbpahojchgpdnaaGreatDoor
open Go.RowKit Go.Lib Go.Bel
theorem infoPa : (Tryz.prog.info? 243).map (fun i => (i.zero, i.size, i.bytes)) = some (some (.agg #[.int .i64 0, .slice none 0 0]), 2, 32) := by kernel_rfl
theorem underPa : Tryz.prog.underlying 240 = some (.slice 243) := by kernel_rfl
theorem Step.of_below {w w' : World} (h : Below w.heap.size w w') : Step (fun _ => False) w w' := ⟨h.os, h.tape, h.output, h.size, fun k hk _ => h.block k hk⟩
theorem growI (n : Nat) (w : World) (hn1 : 1 ≤ n) (hn : n ≤ 1000000) :
  Calls Tryz.prog 158 #[.slice none 0 0, .int .i64 (n : Nat)] w
   fun e w' => ∃ cap, e = .returned (.slice (some ⟨w.heap.size, 0, none⟩) 0 cap) ∧ n ≤ cap ∧ cap ≤ maxLen ∧ (∃ cs : Array Value, cs.size = cap * 1 ∧ w' = w.drew.alloc (.cells cs 3 (0, 0))) := by
 obtain ⟨i0, hi, hz0, hz1, hz2⟩ := info_parts Tryz.info3
 have hold : (Builtin.firstCells i0.size 0 (.slice none 0 0)).run Tryz.prog w.drew = .ok ([] : List Value).toArray w.drew := run_firstCells_none w.drew i0.size 0 0 0
 have hrz : ∀ ty, _ := fun ty => Lib.run_append_grow_zeros (P := Tryz.prog) w 57 3 ty 3 i0 (Value.int .i64 0) .i64 .i64 Tryz.underlying57 Tryz.underlying3 hi hz0 none 0 0 [] hold n hn1 (by omega) (by omega) (by omega) (by rw [hz2]; omega) (by rw [hz2]; simp [Builtin.nextslicecap]; split <;> omega)
 simp only [Nat.zero_add] at hrz
 have hge := grownCap_ge w n 0 3
 have hle := grownCap_le_maxLen w n 0 3 (by unfold maxLen; omega)
 obtain ⟨G, hG⟩ : ∃ G, G = grownCap w n 0 3 := ⟨_, rfl⟩
 rw [← hG] at hrz hge hle
 clear hG
 obtain ⟨cs, hcs⟩ : ∃ cs : Array Value, cs = ([] : List Value).toArray ++ Builtin.zeroCells (Value.int .i64 0).cells n ++ Builtin.zeroCells (Value.int .i64 0).cells (G - n) := ⟨_, rfl⟩
 rw [← hcs] at hrz
 have hsz : cs.size = G * 1 := by
  rw [hcs, Array.size_append, Array.size_append, zeroCells_size, zeroCells_size, show (Value.int .i64 0).cells.size = 1 from rfl]
  simp
  omega
 have HS := hide hsz
 have HGE := hide hge
 have HLE := hide hle
 have hG63 : (G : Int) ≤ 9223372036854775807 := by unfold maxLen at hle; omega
 have hnp : (0 : Int) < (n : Int) := by omega
 clear hcs hsz hge hle hold
 go_enter Tryz.func158, Tryz.ntmps158
 go_wp2_with (at_builtin; refine Lib.wpList_append_run _ rfl _ _ _ _ rfl _ _ rfl rfl _ _ (hrz _) ?_)
 go_ret
 exact ⟨G, rfl, unhide HGE, unhide HLE, cs, unhide HS, rfl⟩
theorem concatI (a n cap : Nat) (R : List Pt) (w : World) (hlen : R.length = n) (hnc : n ≤ cap) (hnb : n ≤ 1000)
  (ha : ∀ j r, R[j]? = some r → w.cell? ⟨a, j, none⟩ = some r.v) (hb : ∀ r ∈ R, r.ok w 1) (hp : 1 ≤ sumM R n) (hR : sumM R n ≤ 1000000) :
  Calls Tryz.prog 132 #[.slice (some ⟨a, 0, none⟩) n cap] w
   fun e w' => ∃ c', e = .returned (.slice (some ⟨w.heap.size, 0, none⟩) (sumM R n) c') ∧ w'.ownsRow w.heap.size 3 1 (.slice (some ⟨w.heap.size, 0, none⟩) (sumM R n) c') (sumM R n) (allM R) ∧ Step (fun _ => False) w w' := by
 obtain ⟨i0, hi, hz0, hz1, hz2⟩ := info_parts Tryz.info3
 have HA := hide ha
 have HB := hide hb
 clear ha hb
 go_enter Tryz.func132, Tryz.ntmps132
 go_wp2_with fail
 go_loopw [3, 11] (fun sz i wr => ∃ j : Nat, j ≤ n ∧ i = .int .i64 (j : Nat) ∧ sz = .int .i64 (sumM R j : Nat) ∧ w = wr) (fun _ i _ => n - (intOf i).toNat)
 case atStart => exact ⟨0, by omega, rfl, rfl, rfl⟩
 case round =>
  obtain ⟨j, hj, rfl, rfl, rfl⟩ := hrel
  by_cases hjn : j < n
  ·obtain ⟨r, hr⟩ : ∃ r, R[j]? = some r := ⟨_, List.getElem?_eq_getElem (by omega)⟩
   have hc := unhide HA j _ hr
   obtain ⟨ao, c, hrv, _⟩ := (unhide HB r (List.mem_of_getElem? hr)).2.2
   rw [hrv] at hc
   have hs : sumM R (j + 1) = sumM R j + r.m := sumM_succ hr
   have hl1 := sumM_mono R (j + 1) (n - (j + 1))
   rw [show j + 1 + (n - (j + 1)) = n by omega] at hl1
   obtain ⟨m, hm⟩ : ∃ m, m = r.m := ⟨_, rfl⟩
   rw [← hm] at hs hc
   obtain ⟨S, hS⟩ : ∃ S, S = sumM R j := ⟨_, rfl⟩
   rw [← hS] at hs
   rw [hs] at hl1
   rw [← hS]
   have HS := hide hs
   have hl2 : (S : Int) + (m : Int) ≤ 1000000 := by omega
   clear hs hS hr hm hrv hR hp hl1
   have hjn' : (j : Int) < (n : Int) := by omega
   go_wp2_with fail
   go_roundw
   case rel => exact ⟨j + 1, by omega, by go_num, by rw [unhide HS]; go_num, trivial⟩
   case measure => simp [intOf]; omega
  ·obtain rfl : j = n := by omega
   go_wp2_with (go_at_call 158; refine (growI (sumM R j) _ hp hR).mono ?_; rintro e w1 ⟨c1, rfl, hc1, hcm, cs, hcs, hw1⟩)
   have hown : (w.alloc (.cells cs 3 (0, 0))).drew.ownsRow w.heap.size 3 1 (.slice (some ⟨w.heap.size, 0, none⟩) 0 c1) 0 [] :=
    ⟨by simp, .inr ⟨w.heap.size, c1, cs, rfl, Nat.le_refl _, heap_alloc_new _ _, by omega, hcm, by omega, by simp⟩⟩
   have hbel : Below w.heap.size w (w.alloc (.cells cs 3 (0, 0))).drew := ((Below.refl w.heap.size w).alloc (Nat.le_refl _) _).drew
   have HO := hide hown
   have HBE := hide hbel
   have HC1 := hide hc1
   clear hown hbel hw1 hcs hcm hc1
   go_loopw [6, 27] (fun s i wr => ∃ k : Nat, k ≤ j ∧ i = .int .i64 (k : Nat) ∧ s = .slice (some ⟨w.heap.size, 0, none⟩) (sumM R k) c1 ∧ wr.ownsRow w.heap.size 3 1 (.slice (some ⟨w.heap.size, 0, none⟩) (sumM R k) c1) (sumM R k) (allM (R.take k)) ∧ Below w.heap.size w wr) (fun _ i _ => j - (intOf i).toNat)
   case atStart => exact ⟨0, by omega, rfl, rfl, unhide HO, unhide HBE⟩
   case round =>
    clear HO HBE
    obtain ⟨k, hk, rfl, rfl, hown, hbel⟩ := hrel
    by_cases hkj : k < j
    ·obtain ⟨r, hr⟩ : ∃ r, R[k]? = some r := ⟨_, List.getElem?_eq_getElem (by omega)⟩
     have hc0 := unhide HA k _ hr
     have hc := (hbel.cell (p := ⟨a, k, none⟩) (World.block_lt_of_cell? w _ hc0)).trans hc0
     obtain ⟨hrl, hone, ao, c, hrv, hno, hso⟩ := unhide HB r (List.mem_of_getElem? hr)
     rw [hrv] at hc
     have hs : sumM R (k + 1) = sumM R k + r.m := sumM_succ hr
     have hal : allM (R.take (k + 1)) = allM (R.take k) ++ r.xs := allM_succ hr
     have hroom : sumM R k + r.m ≤ c1 := by
      have := sumM_mono R (k + 1) (j - (k + 1))
      rw [show k + 1 + (j - (k + 1)) = j by omega] at this
      have := unhide HC1
      omega
     have hsrc : ∀ ad, ao = some ad → ∀ i u, r.xs[i]? = some u → wr.cell? (ad.add i) = some u := by
      intro ad had i u hu
      have h1 := hso ad had i u hu
      have hlt := World.block_lt_of_cell? w _ h1
      exact (hbel.cell hlt).trans h1
     obtain ⟨m, hm⟩ : ∃ m, m = r.m := ⟨_, rfl⟩
     obtain ⟨xs, hxs⟩ : ∃ xs, xs = r.xs := ⟨_, rfl⟩
     rw [← hm] at hs hc hroom hno hrl
     rw [← hxs] at hal hsrc hone hrl
     obtain ⟨S, hS⟩ : ∃ S, S = sumM R k := ⟨_, rfl⟩
     rw [← hS] at hs hroom hown
     rw [← hS]
     have HS := hide hs
     have HAL := hide hal
     have HOWN := hide hown
     have HBEL := hide hbel
     have HSRC := hide hsrc
     have HONE := hide hone
     have HNO := hide hno
     have HRL := hide hrl
     clear hs hS hr hal hown hbel hsrc hone hc0 hno hso hm hxs hrv hrl
     have hkj' : (k : Int) < (j : Int) := by omega
     go_wp2_with (at_builtin; refine wpList_append_fits_any _ rfl (.tmp 31) (.tmp 32) 57 rfl w.heap.size 3 i0 1 Tryz.underlying57 hi hz1 w.heap.size S c1 (allM (R.take k)) rfl (unhide HOWN) ao m c xs rfl (unhide HRL) (unhide HNO) (unhide HSRC) (unhide HONE) hroom ?_; intro w2 ho2 hgr2)
     have hbel2 := (unhide HBEL).grown hgr2 (unhide HBEL).size (fun q hq => by cases hq; exact Nat.le_refl _)
     go_roundw
     case rel => exact ⟨k + 1, by omega, by go_num, by rw [unhide HS], by rw [unhide HS, unhide HAL]; exact ho2, hbel2⟩
     case measure => simp [intOf]; omega
    ·obtain rfl : k = j := by omega
     have HOWN := hide hown
     have HBEL := hide hbel
     clear hown hbel
     go_wp2_with fail
     go_ret
     refine ⟨c1, rfl, ?_, Step.of_below (unhide HBEL)⟩
     have := unhide HOWN
     rw [List.take_of_length_le (by omega)] at this
     exact this
theorem growP (n : Nat) (w : World) (hn1 : 1 ≤ n) (hn : n ≤ 1000000) :
  Calls Tryz.prog 215 #[.slice none 0 0, .int .i64 (n : Nat)] w
   fun e w' => ∃ cap, e = .returned (.slice (some ⟨w.heap.size, 0, none⟩) 0 cap) ∧ n ≤ cap ∧ cap ≤ maxLen ∧ (∃ cs : Array Value, cs.size = cap * 2 ∧ w' = w.drew.alloc (.cells cs 243 (0, 0))) := by
 obtain ⟨i0, hi, hz0, hz1, hz2⟩ := info_parts infoPa
 have hold : (Builtin.firstCells i0.size 0 (.slice none 0 0)).run Tryz.prog w.drew = .ok ([] : List Value).toArray w.drew := run_firstCells_none w.drew i0.size 0 0 0
 have hrz : ∀ ty, _ := fun ty => Lib.run_append_grow_zeros (P := Tryz.prog) w 240 3 ty 243 i0 (Value.agg #[.int .i64 0, .slice none 0 0]) .i64 .i64 underPa Tryz.underlying3 hi hz0 none 0 0 [] hold n hn1 (by omega) (by omega) (by omega) (by rw [hz2]; omega) (by rw [hz2]; simp [Builtin.nextslicecap]; split <;> omega)
 simp only [Nat.zero_add] at hrz
 have hge := grownCap_ge w n 0 243
 have hle := grownCap_le_maxLen w n 0 243 (by unfold maxLen; omega)
 obtain ⟨G, hG⟩ : ∃ G, G = grownCap w n 0 243 := ⟨_, rfl⟩
 rw [← hG] at hrz hge hle
 clear hG
 obtain ⟨cs, hcs⟩ : ∃ cs : Array Value, cs = ([] : List Value).toArray ++ Builtin.zeroCells (Value.agg #[.int .i64 0, .slice none 0 0]).cells n ++ Builtin.zeroCells (Value.agg #[.int .i64 0, .slice none 0 0]).cells (G - n) := ⟨_, rfl⟩
 rw [← hcs] at hrz
 have hsz : cs.size = G * 2 := by
  rw [hcs, Array.size_append, Array.size_append, zeroCells_size, zeroCells_size, show (Value.agg #[.int .i64 0, .slice none 0 0]).cells.size = 2 from rfl]
  simp
  omega
 have HS := hide hsz
 have HGE := hide hge
 have HLE := hide hle
 have hG63 : (G : Int) ≤ 9223372036854775807 := by unfold maxLen at hle; omega
 have hnp : (0 : Int) < (n : Int) := by omega
 clear hcs hsz hge hle hold
 go_enter Tryz.func215, Tryz.ntmps215
 go_wp2_with (at_builtin; refine Lib.wpList_append_run _ rfl _ _ _ _ rfl _ _ rfl rfl _ _ (hrz _) ?_)
 go_ret
 exact ⟨G, rfl, unhide HGE, unhide HLE, cs, unhide HS, rfl⟩
theorem concatP (a n cap : Nat) (R : List Pt) (w : World) (hlen : R.length = n) (hnc : n ≤ cap) (hnb : n ≤ 1000)
  (ha : ∀ j r, R[j]? = some r → w.cell? ⟨a, j, none⟩ = some r.v) (hb : ∀ r ∈ R, r.ok w 2) (hp : 1 ≤ sumM R n) (hR : sumM R n ≤ 1000000) :
  Calls Tryz.prog 206 #[.slice (some ⟨a, 0, none⟩) n cap] w
   fun e w' => ∃ c', e = .returned (.slice (some ⟨w.heap.size, 0, none⟩) (sumM R n) c') ∧ w'.ownsRow w.heap.size 243 2 (.slice (some ⟨w.heap.size, 0, none⟩) (sumM R n) c') (sumM R n) (allM R) ∧ Step (fun _ => False) w w' := by
 obtain ⟨i0, hi, hz0, hz1, hz2⟩ := info_parts infoPa
 have HA := hide ha
 have HB := hide hb
 clear ha hb
 go_enter Tryz.func206, Tryz.ntmps206
 go_wp2_with fail
 go_loopw [3, 11] (fun sz i wr => ∃ j : Nat, j ≤ n ∧ i = .int .i64 (j : Nat) ∧ sz = .int .i64 (sumM R j : Nat) ∧ w = wr) (fun _ i _ => n - (intOf i).toNat)
 case atStart => exact ⟨0, by omega, rfl, rfl, rfl⟩
 case round =>
  obtain ⟨j, hj, rfl, rfl, rfl⟩ := hrel
  by_cases hjn : j < n
  ·obtain ⟨r, hr⟩ : ∃ r, R[j]? = some r := ⟨_, List.getElem?_eq_getElem (by omega)⟩
   have hc := unhide HA j _ hr
   obtain ⟨ao, c, hrv, _⟩ := (unhide HB r (List.mem_of_getElem? hr)).2.2
   rw [hrv] at hc
   have hs : sumM R (j + 1) = sumM R j + r.m := sumM_succ hr
   have hl1 := sumM_mono R (j + 1) (n - (j + 1))
   rw [show j + 1 + (n - (j + 1)) = n by omega] at hl1
   obtain ⟨m, hm⟩ : ∃ m, m = r.m := ⟨_, rfl⟩
   rw [← hm] at hs hc
   obtain ⟨S, hS⟩ : ∃ S, S = sumM R j := ⟨_, rfl⟩
   rw [← hS] at hs
   rw [hs] at hl1
   rw [← hS]
   have HS := hide hs
   have hl2 : (S : Int) + (m : Int) ≤ 1000000 := by omega
   clear hs hS hr hm hrv hR hp hl1
   have hjn' : (j : Int) < (n : Int) := by omega
   go_wp2_with fail
   go_roundw
   case rel => exact ⟨j + 1, by omega, by go_num, by rw [unhide HS]; go_num, trivial⟩
   case measure => simp [intOf]; omega
  ·obtain rfl : j = n := by omega
   go_wp2_with (go_at_call 215; refine (growP (sumM R j) _ hp hR).mono ?_; rintro e w1 ⟨c1, rfl, hc1, hcm, cs, hcs, hw1⟩)
   have hown : (w.alloc (.cells cs 243 (0, 0))).drew.ownsRow w.heap.size 243 2 (.slice (some ⟨w.heap.size, 0, none⟩) 0 c1) 0 [] :=
    ⟨by simp, .inr ⟨w.heap.size, c1, cs, rfl, Nat.le_refl _, heap_alloc_new _ _, by omega, hcm, by omega, by simp⟩⟩
   have hbel : Below w.heap.size w (w.alloc (.cells cs 243 (0, 0))).drew := ((Below.refl w.heap.size w).alloc (Nat.le_refl _) _).drew
   have HO := hide hown
   have HBE := hide hbel
   have HC1 := hide hc1
   clear hown hbel hw1 hcs hcm hc1
   go_loopw [6, 27] (fun s i wr => ∃ k : Nat, k ≤ j ∧ i = .int .i64 (k : Nat) ∧ s = .slice (some ⟨w.heap.size, 0, none⟩) (sumM R k) c1 ∧ wr.ownsRow w.heap.size 243 2 (.slice (some ⟨w.heap.size, 0, none⟩) (sumM R k) c1) (sumM R k) (allM (R.take k)) ∧ Below w.heap.size w wr) (fun _ i _ => j - (intOf i).toNat)
   case atStart => exact ⟨0, by omega, rfl, rfl, unhide HO, unhide HBE⟩
   case round =>
    clear HO HBE
    obtain ⟨k, hk, rfl, rfl, hown, hbel⟩ := hrel
    by_cases hkj : k < j
    ·obtain ⟨r, hr⟩ : ∃ r, R[k]? = some r := ⟨_, List.getElem?_eq_getElem (by omega)⟩
     have hc0 := unhide HA k _ hr
     have hc := (hbel.cell (p := ⟨a, k, none⟩) (World.block_lt_of_cell? w _ hc0)).trans hc0
     obtain ⟨hrl, hone, ao, c, hrv, hno, hso⟩ := unhide HB r (List.mem_of_getElem? hr)
     rw [hrv] at hc
     have hs : sumM R (k + 1) = sumM R k + r.m := sumM_succ hr
     have hal : allM (R.take (k + 1)) = allM (R.take k) ++ r.xs := allM_succ hr
     have hroom : sumM R k + r.m ≤ c1 := by
      have := sumM_mono R (k + 1) (j - (k + 1))
      rw [show k + 1 + (j - (k + 1)) = j by omega] at this
      have := unhide HC1
      omega
     have hsrc : ∀ ad, ao = some ad → ∀ i u, r.xs[i]? = some u → wr.cell? (ad.add i) = some u := by
      intro ad had i u hu
      have h1 := hso ad had i u hu
      have hlt := World.block_lt_of_cell? w _ h1
      exact (hbel.cell hlt).trans h1
     obtain ⟨m, hm⟩ : ∃ m, m = r.m := ⟨_, rfl⟩
     obtain ⟨xs, hxs⟩ : ∃ xs, xs = r.xs := ⟨_, rfl⟩
     rw [← hm] at hs hc hroom hno hrl
     rw [← hxs] at hal hsrc hone hrl
     obtain ⟨S, hS⟩ : ∃ S, S = sumM R k := ⟨_, rfl⟩
     rw [← hS] at hs hroom hown
     rw [← hS]
     have HS := hide hs
     have HAL := hide hal
     have HOWN := hide hown
     have HBEL := hide hbel
     have HSRC := hide hsrc
     have HONE := hide hone
     have HNO := hide hno
     have HRL := hide hrl
     clear hs hS hr hal hown hbel hsrc hone hc0 hno hso hm hxs hrv hrl
     have hkj' : (k : Int) < (j : Int) := by omega
     go_wp2_with (at_builtin; refine wpList_append_fits_any _ rfl (.tmp 31) (.tmp 32) 240 rfl w.heap.size 243 i0 2 underPa hi hz1 w.heap.size S c1 (allM (R.take k)) rfl (unhide HOWN) ao m c xs rfl (unhide HRL) (unhide HNO) (unhide HSRC) (unhide HONE) hroom ?_; intro w2 ho2 hgr2)
     have hbel2 := (unhide HBEL).grown hgr2 (unhide HBEL).size (fun q hq => by cases hq; exact Nat.le_refl _)
     go_roundw
     case rel => exact ⟨k + 1, by omega, by go_num, by rw [unhide HS], by rw [unhide HS, unhide HAL]; exact ho2, hbel2⟩
     case measure => simp [intOf]; omega
    ·obtain rfl : k = j := by omega
     have HOWN := hide hown
     have HBEL := hide hbel
     clear hown hbel
     go_wp2_with fail
     go_ret
     refine ⟨c1, rfl, ?_, Step.of_below (unhide HBEL)⟩
     have := unhide HOWN
     rw [List.take_of_length_le (by omega)] at this
     exact this
end Go.Proofs.YtbpahojchgpdnaaGreatDoor
namespace Go.Proofs.YtbpahojchgpdnaaGreatDoor
open Go.RowKit Go.Shelf Go.Lib Go.Sort Go.Bel
theorem two_cells {w : World} {u v : Value} {t : TypeId} {m n : Nat} {xs ys : List Value} (j : Nat) (r : Pt) (h : ([⟨u, m, xs⟩, ⟨v, n, ys⟩] : List Pt)[j]? = some r) : (w.alloc (.cells #[u, v] t)).cell? ⟨w.heap.size, j, none⟩ = some r.v := by
 refine blk_cell (heap_alloc_new _ _) j _ ?_
 match j, h with
 | 0, h => cases h; rfl
 | 1, h => cases h; rfl
theorem PesIn.pt {w : World} {v : Value} {l : List Pe} (h : PesIn w v l) : Pt.ok w 2 ⟨v, l.length, cellsE l⟩ := by
 refine ⟨cellsE_length l, cellsE_one l, ?_⟩
 rcases h with ⟨rfl, rfl⟩ | ⟨g, cap, rfl, h2, h3, h4⟩
 ·exact ⟨none, 0, rfl, fun _ => ⟨rfl, rfl⟩, fun ad h => by cases h⟩
 ·refine ⟨some ⟨g, 0, none⟩, cap, rfl, fun h => (by cases h), fun ad h j u hu => ?_⟩
  cases h
  rw [show (Addr.add ⟨g, 0, none⟩ j) = ⟨g, j, none⟩ by simp [Addr.add]; omega]
  exact h4.cells j u hu
theorem sortStable_ok (blk cap : Nat) (l0 : List Pe) (w : World) (R : RowK Pe.enc 2 w blk 0 l0.toArray) (hsz : l0.length < 1073741824) :
  Calls Tryz.prog 207 #[.slice (some ⟨blk, 0, none⟩) l0.length cap, fvE] w fun e w' => e = .returned (.tuple #[]) ∧ SwE w blk 0 (stabE l0) w' := by
 have h := stable_ok blk 0 cap l0 w w R (SWK.start R.hH) hsz
 unfold fvE at h ⊢
 have H := hide h
 obtain ⟨n, hn⟩ : ∃ n, l0.length = n := ⟨_, rfl⟩
 rw [hn] at H ⊢
 clear h hn R
 go_enter Tryz.func207, Tryz.ntmps207
 go_wp2_with (go_at_call 216; refine (unhide H).mono ?_; rintro e w' ⟨rfl, h2⟩)
 go_end0
 exact ⟨rfl, h2⟩
theorem sorted_ok2 (u v : Value) (S Q : List Pe) (w : World) (hu : PesIn w u S) (hv : PesIn w v Q) (hs : 1 ≤ S.length) (hb : S.length + Q.length ≤ 1000000) :
  Calls Tryz.prog 197 #[u, v] w fun e w' => ∃ v', e = .returned v' ∧ PesIn w' v' (stabE (S ++ Q)) ∧ (∀ b, v'.ownBlock = some b → w.heap.size ≤ b) ∧ Step (fun _ => False) w w' := by
 obtain ⟨ua, uc, rfl⟩ : ∃ ao c, u = .slice ao S.length c := by obtain ⟨_, _, ao, c, h, _⟩ := hu.pt; exact ⟨ao, c, h⟩
 obtain ⟨va, vc, rfl⟩ : ∃ ao c, v = .slice ao Q.length c := by obtain ⟨_, _, ao, c, h, _⟩ := hv.pt; exact ⟨ao, c, h⟩
 have hst0 : Step (fun _ => False) w (w.alloc (.cells #[.slice ua S.length uc, .slice va Q.length vc] 240)) := (Step.refl _ _).alloc _
 have HU := hide (hu.step hst0).pt
 have HV := hide (hv.step hst0).pt
 have HS0 := hide hst0
 have hsum : sumM [⟨.slice ua S.length uc, S.length, cellsE S⟩, ⟨.slice va Q.length vc, Q.length, cellsE Q⟩] 2 = (S ++ Q).length := by simp [sumM]
 have hall : allM [⟨.slice ua S.length uc, S.length, cellsE S⟩, ⟨.slice va Q.length vc, Q.length, cellsE Q⟩] = cellsE (S ++ Q) := by rw [cellsE_append]; simp [allM]
 have hln : (S ++ Q).length = S.length + Q.length := by simp
 have HX := hide (And.intro hsum hall)
 clear hu hv hsum hall hst0
 go_enter Tryz.func197, Tryz.ntmps197
 go_wp2_with fail
 refine (concatP w.heap.size 2 2 [⟨.slice ua S.length uc, S.length, cellsE S⟩, ⟨.slice va Q.length vc, Q.length, cellsE Q⟩] (w.alloc _) rfl (by omega) (by omega) two_cells ?cb ?cp ?cr).mono ?_
 case cb =>
  intro r hr
  simp only [List.mem_cons, List.not_mem_nil, or_false] at hr
  rcases hr with rfl | rfl
  ·exact unhide HU
  ·exact unhide HV
 case cp => rw [(unhide HX).1]; omega
 case cr => rw [(unhide HX).1]; omega
 rintro e w1 ⟨c', rfl, hown, hst⟩
 rw [(unhide HX).1, (unhide HX).2] at hown
 rw [(unhide HX).1]
 have hp := PesIn.of_owns hown
 obtain ⟨blk, hblk⟩ : ∃ b, b = (w.alloc (.cells #[.slice ua S.length uc, .slice va Q.length vc] 240)).heap.size := ⟨_, rfl⟩
 rw [← hblk] at hown hp ⊢
 obtain ⟨hn0, hnl⟩ | ⟨g, cap, hv, hlc, hg, hat⟩ := hp
 ·cases hn0
 ·cases hv
  have hso := sortStable_ok blk c' (S ++ Q) w1 (rowE hat.holds hg) (by omega)
  have hbw : w.heap.size < blk := by rw [hblk]; simp
  have hst1 := (unhide HS0).trans hst
  have HST := hide hst1
  have HSO := hide hso
  have HAT := hide hat
  unfold fvE at HSO
  obtain ⟨n, hn⟩ : ∃ n, (S ++ Q).length = n := ⟨_, rfl⟩
  rw [hn] at HSO hlc ⊢
  have HN := hide hn
  clear hso hst hst1 hown hat hblk hln HX HU HV HS0 hn
  go_wp2_with (go_at_call 207; refine (unhide HSO).mono ?_; rintro e w2 ⟨rfl, h2⟩)
  go_ret
  have hs2 := h2.step
  have hN := unhide HN
  refine ⟨_, rfl, .inr ⟨blk, c', by rw [stabE_length, hN]; rfl, by rw [stabE_length, hN]; exact hlc, by have := hs2.size; omega, PesAt.of_holds (SWK.holds h2 hg (unhide HAT).holds (by simp [stabE_length]))⟩, fun b hb => by cases hb; exact Nat.le_of_lt hbw, (unhide HST).trans' hs2 (fun i hi y => by omega)⟩
end Go.Proofs.YtbpahojchgpdnaaGreatDoor
namespace Go.Bel
def comes (L : List Nat) (n : Nat) : List Nat := (List.range n).filter fun i => decide (0 < L[i]?.getD 0)
def often (L : List Nat) (i : Nat) : Nat := L[i]?.getD 0
theorem comes_succ (L : List Nat) (n : Nat) : comes L (n + 1) = if 0 < often L n then comes L n ++ [n] else comes L n := by
 unfold comes often
 rw [List.range_succ, List.filter_append]
 by_cases h : 0 < L[n]?.getD 0
 ·simp [h]
 ·simp [h]
theorem comes_nodup (L : List Nat) (n : Nat) : (comes L n).Nodup := List.nodup_range.sublist List.filter_sublist
theorem comes_mem (L : List Nat) (n i : Nat) : i ∈ comes L n ↔ i < n ∧ 0 < often L i := by simp [comes, often]
theorem comes_length (L : List Nat) (n : Nat) : (comes L n).length ≤ n := by
 have := List.length_filter_le (fun i => decide (0 < L[i]?.getD 0)) (List.range n)
 simpa [comes] using this
end Go.Bel
namespace Go.Proofs.YtbpahojchgpdnaaGreatDoor
open Go.RowKit Go.Shelf Go.Lib Go.Sort Go.Bel
def NumsIn (w : World) (g off : Nat) (L : List Nat) : Prop := ∀ i : Nat, i < L.length → w.cell? ⟨g, off + i, none⟩ = some (.int .i64 (often L i : Nat))
theorem NumsIn.step {S : Nat → Prop} {w w' : World} {g off : Nat} {L : List Nat} (h : NumsIn w g off L) (hs : Step S w w') (hn : ¬ S g) : NumsIn w' g off L :=
 fun i hi => hs.cell (h i hi) hn
theorem SyAt.nums {w : World} {p : Pe} (h : SyAt w p) : NumsIn w p.g 0 p.s := fun i hi => by
 rw [Nat.zero_add]
 exact h.2.2 i _ (by unfold often; rw [List.getElem?_eq_getElem hi]; rfl)
structure PRow (B : Nat) (w : World) (v : Value) (S : List Pe) : Prop where
 row : w.ownsRow B 243 2 v S.length (cellsE S)
 sy : ∀ p ∈ S, SyAt w p
 ne : ∀ p ∈ S, ∀ k, v.ownBlock = some k → p.g ≠ k
 lo : ∀ p ∈ S, B ≤ p.g
theorem PRow.nil (B : Nat) (w : World) : PRow B w (.slice none 0 0) [] := ⟨⟨rfl, .inl ⟨rfl, rfl⟩⟩, fun p hp => by simp at hp, fun p hp => by simp at hp, fun p hp => by simp at hp⟩
theorem PRow.more {B : Nat} {w2 w4 w5 : World} {v : Value} {S : List Pe} {p : Pe} {g cap : Nat} (h : PRow B w2 v S) (hB : B ≤ w2.heap.size) (hs4 : Step (fun _ => False) w2 w4) (hp : SyAt w4 p) (hpg : w2.heap.size ≤ p.g)
  (hown : w5.ownsRow B 243 2 (.slice (some ⟨g, 0, none⟩) (S.length + 1) cap) (S.length + 1) (cellsE S ++ cellsE [p])) (hgr : w4.grownBy w5 v.ownBlock) (hg : v.ownBlock = some g ∨ w4.heap.size ≤ g) :
  PRow B w5 (.slice (some ⟨g, 0, none⟩) (S.length + 1) cap) (S ++ [p]) := by
 have hvb : ∀ k, v.ownBlock = some k → k < w2.heap.size := fun k hk => (h.row.lt k hk).2
 have hst : Step (fun k => v.ownBlock = some k) w4 w5 := ⟨hgr.os, hgr.tape, hgr.output, hgr.size, fun k hk hn => hgr.block k hk (fun e => hn e.symm)⟩
 refine ⟨by rw [List.length_append, cellsE_append]; exact hown, fun q hq => ?_, fun q hq k hk => ?_, fun q hq => ?_⟩
 ·rcases List.mem_append.1 hq with hq | hq
  ·exact ((h.sy q hq).step hs4 (fun y => y)).step hst (fun y => h.ne q hq _ y rfl)
  ·cases List.mem_singleton.1 hq
   exact hp.step hst (fun y => by have := hvb _ y; omega)
 ·have hkg : k = g := by cases hk; rfl
  subst hkg
  rcases List.mem_append.1 hq with hq | hq
  ·rcases hg with e | e
   ·exact h.ne q hq _ e
   ·have := (h.sy q hq).2.1
    have := hs4.size
    omega
  ·cases List.mem_singleton.1 hq
   rcases hg with e | e
   ·have := hvb _ e; omega
   ·have := hp.2.1; omega
 ·rcases List.mem_append.1 hq with hq | hq
  ·exact h.lo q hq
  ·cases List.mem_singleton.1 hq
   omega
theorem single_ok (g off cap : Nat) (L : List Nat) (w : World) (h : NumsIn w g off L) (hL : L.length ≤ 1000) (hcap : ∀ i, often L i ≤ 1000000000) :
  Calls Tryz.prog 196 #[.slice (some ⟨g, off, none⟩) L.length cap] w fun e w' => ∃ v S, e = .returned v ∧ PRow w.heap.size w' v S ∧ S.map Pe.pa = (comes L L.length).map (mk1 (often L)) ∧ Step (fun _ => False) w w' := by
 obtain ⟨i0, hi, hz0, hz1, hz2'⟩ := info_parts infoPa
 obtain ⟨B, hB⟩ : ∃ B, B = w.heap.size := ⟨_, rfl⟩
 rw [← hB]
 have HB := hide hB
 have HI := hide h
 clear h hB
 go_enter Tryz.func196, Tryz.ntmps196
 go_wp2_with fail
 go_loopw [3, 8] (fun u3 u8 wr => ∃ (k : Nat) (v : Value) (S : List Pe), u8 = .int .i64 (k : Nat) ∧ u3 = v ∧ k ≤ L.length ∧ PRow B wr v S ∧ S.map Pe.pa = (comes L k).map (mk1 (often L)) ∧ B ≤ wr.heap.size ∧ Step (fun _ => False) w wr) (fun _ u8 _ => L.length - (intOf u8).toNat)
 case atStart => exact ⟨0, _, [], rfl, rfl, by omega, PRow.nil _ _, rfl, by have := unhide HB; omega, Step.refl _ _⟩
 case round =>
  obtain ⟨k, v, S, rfl, rfl, hk, hrow, hpa, hBw, hst⟩ := hrel
  have HROW := hide hrow
  have HPA := hide hpa
  have HST := hide hst
  by_cases hlt : k < L.length
  ·have hltz : (k : Int) < (L.length : Int) := by omega
   have hc := hst.cell (unhide HI k hlt) (fun y => y)
   have hsl : S.length ≤ k := by
    have h1 := congrArg List.length hpa
    simp only [List.length_map] at h1
    have := comes_length L k
    omega
   have hcb := hcap k
   have hsucc := comes_succ L k
   obtain ⟨c, hcd⟩ : ∃ c, c = often L k := ⟨_, rfl⟩
   rw [← hcd] at hc hcb hsucc
   have HC := hide hcd
   clear hrow hpa hst hcd
   by_cases hc0 : 0 < c
   ·have hc0z : (0 : Int) < (c : Int) := by omega
    have hc0y : (c : Int) > 0 := by omega
    rw [if_pos hc0] at hsucc
    have HSU := hide hsucc
    clear hsucc hcap
    go_wp2_with (at_builtin; refine wpList_append_row _ rfl _ _ 240 rfl B 243 i0 _ 2 32 underPa hi hz0 hz1 hz2' rfl (by decide) _ S.length (cellsE S) rfl (by exact ((unhide HROW).row.alloc _).alloc _) ⟨wr.heap.size + 1, 0, none⟩ 1 1 (cellsE [⟨c, [k], wr.heap.size, 1⟩]) rfl rfl ?c1 (cellsE_one _) (by decide) ?c3 ?c4 ?c5 ?_)
    case c1 =>
     intro i u hu
     have h9 := heap_alloc_new (wr.alloc (.cells #[.int .i64 (k : Nat)] 3)) (.cells #[.int .i64 (c : Nat), .slice (some ⟨wr.heap.size, 0, none⟩) 1 1] 243)
     rw [World.size_alloc] at h9
     have h8 := blk_cell h9 i u (by rw [← hu]; simp [cellsE, Pe.v])
     rw [show (Addr.add ⟨wr.heap.size + 1, 0, none⟩ i) = ⟨wr.heap.size + 1, i, none⟩ by simp [Addr.add]; omega]
     exact h8
    case c3 => unfold maxLen; omega
    case c4 => omega
    case c5 => simp; omega
    intro g' cap' w5 hown hgr hg
    obtain ⟨w4, hw4⟩ : ∃ w4, w4 = (wr.alloc (.cells #[.int .i64 (k : Nat)] 3)).alloc (.cells #[.int .i64 (c : Nat), .slice (some ⟨wr.heap.size, 0, none⟩) 1 1] 243) := ⟨_, rfl⟩
    rw [← hw4] at hgr
    have hg4 : u3.ownBlock = some g' ∨ w4.heap.size ≤ g' := by rw [hw4]; simpa using hg
    have hs4 : Step (fun _ => False) wr w4 := by rw [hw4]; exact ((Step.refl _ _).alloc _).alloc _
    have hsy : SyAt w4 ⟨c, [k], wr.heap.size, 1⟩ := by
     have hb : w4.heap[wr.heap.size]? = some (.cells #[.int .i64 (k : Nat)] 3 (0, 0)) := by
      rw [hw4]
      exact (Below.heap_alloc _ _ _ (by simp)).trans (heap_alloc_new _ _)
     refine ⟨by simp, lt_of_block hb, fun j x hx => ?_⟩
     match j, hx with
     | 0, hx => cases hx; exact blk_cell hb 0 _ rfl
    have n1 := (unhide HROW).more hBw hs4 hsy (Nat.le_refl _) hown hgr hg4
    have hs5 : Step (fun _ => False) w w5 := ((unhide HST).trans hs4).grown hgr (fun k e => by
     have h1 := ((unhide HROW).row.lt k e).1
     have h2 := unhide HB
     exact .inr (by omega))
    have hz4 := hs4.size
    have hz5 := hgr.size
    have N1 := hide n1
    have HS5 := hide hs5
    clear hown hgr hg hg4 hw4 hs4 hsy n1 hs5 HROW HST
    go_wp2_with fail
    go_roundw
    case rel =>
     refine ⟨k + 1, _, S ++ [⟨c, [k], wr.heap.size, 1⟩], by go_num, rfl, by omega, ?_, ?_, by omega, unhide HS5⟩
     ·have := unhide N1
      exact this
     ·rw [unhide HSU, List.map_append, List.map_append, unhide HPA, unhide HC]; rfl
    case measure => simp [intOf]; omega
   ·have hc0z : ¬ (0 : Int) < (c : Int) := by omega
    have hc0y : ¬ (c : Int) > 0 := by omega
    rw [if_neg hc0] at hsucc
    have HSU := hide hsucc
    clear hsucc hcap
    go_wp2_with fail
    go_roundw
    case rel => exact ⟨k + 1, _, S, by go_num, rfl, by omega, unhide HROW, by rw [unhide HSU]; exact unhide HPA, hBw, unhide HST⟩
    case measure => simp [intOf]; omega
  ·have hltz : ¬ (k : Int) < (L.length : Int) := by omega
   have hkk : k = L.length := by omega
   rw [hkk] at hpa
   have HPB := hide hpa
   clear hrow hpa hst hkk HPA
   go_wp2_with fail
   go_ret
   exact ⟨_, rfl, S, unhide HROW, unhide HPB, unhide HST⟩
end Go.Proofs.YtbpahojchgpdnaaGreatDoor
namespace Go.Bel
open Go Go.RowKit
theorem step_append_row {P : Program} {ops : Array Oper} {o : Oper} {a : Act} {w : World} {K : Act → World → Prop} {Q : Exit → Act → World → Prop} {E : Prop}
  (hg : o.guard = none) (s x : Operand) (t : TypeId) (hop : o.op = Op.call { callee := Callee.builtin Builtin.append, args := #[s, x], argTypes := #[t, t] })
  (base : Nat) (e : TypeId) (i : TypeInfo) (z : Value) (size bytes : Nat) (h1 : P.underlying t = some (.slice e)) (h2 : P.info? e = some i) (h3 : i.zero = some z) (h4 : i.size = size) (h5 : i.bytes = bytes) (h6 : z.cells.size = size) (h7 : 0 < size)
  (v : Value) (n : Nat) (xs : List Value) (hs : a.eval s = v) (hown : w.ownsRow base e size v n xs)
  (ad : Addr) (m c : Nat) (news : List Value) (hx : a.eval x = .slice (some ad) m c) (hn : news.length = m * size) (hc : ∀ j u, news[j]? = some u → w.cell? (ad.add j) = some u) (h1c : ∀ u ∈ news, u.oneCell' = true)
  (hm : 0 < m) (b1 : n + m ≤ maxLen) (b2 : (n + m) * bytes ≤ 140737488355328) (hbase : base ≤ w.heap.size)
  (hK : ∀ g cap w', w'.ownsRow base e size (.slice (some ⟨g, 0, none⟩) (n + m) cap) (n + m) (xs ++ news) → w.grownBy w' v.ownBlock → (v.ownBlock = some g ∨ w.heap.size ≤ g) → K (a.put o.dst (.slice (some ⟨g, 0, none⟩) (n + m) cap)) w') :
  if Region.wanted o (yielded ops a.tmps) = true then Oper.wp P o a w K Q else E := by
 have hw : Region.wanted o (yielded ops a.tmps) = true := by simp [Region.wanted, hg]
 rw [if_pos hw]
 have main : ∀ v' w', (Builtin.append_ #[t, t] o.type #[v, .slice (some ad) m c]).run P w = .ok v' w' → K (a.put o.dst v') w' → Oper.wp P o a w K Q := by
  intro v' w' hrun h
  unfold Oper.wp
  simp [execOp, hop, resolve, invoke, builtin, hs, hx, hrun, Result.andThen]
  exact h
 have fin : ∀ v' w', w'.ownsRow w.heap.size e size v' (n + m) (xs ++ news) → w.grownBy w' none → K (a.put o.dst v') w' := by
  intro v' w' ho hgr
  obtain ⟨g, cap', hv'⟩ : ∃ g cap', v' = .slice (some ⟨g, 0, none⟩) (n + m) cap' := by
   obtain ⟨_, ⟨_, hz⟩ | ⟨g, cap', cur, hv', _⟩⟩ := ho
   ·omega
   ·exact ⟨g, cap', hv'⟩
  subst hv'
  exact hK g cap' w' (ownsRow_mono ho hbase) (grownBy_row hgr) (.inr (ho.lt g rfl).1)
 have hown' := hown
 obtain ⟨hl, ⟨hv, hn0⟩ | ⟨g, cap, cur, hv, hgb, hh, hnc, hcm, hcs, htk⟩⟩ := hown
 ·subst hn0
  have hxs : xs = [] := List.eq_nil_of_length_eq_zero (by omega)
  subst hxs hv
  obtain ⟨v', w', hrun, r1, r2, _⟩ := run_append_own (P := P) w w.heap.size t o.type e i z size bytes h1 h2 h3 h4 h5 h6 h7 (.slice none 0 0) 0 [] (World.ownsRow_nil w _ e size) ad m c news hn hc h1c b1 b2 (Nat.le_refl _)
  exact main v' w' hrun (fin v' w' r1 r2)
 ·by_cases hroom : n + m ≤ cap
  ·subst hv
   obtain ⟨w', hrun, r1, r2⟩ := run_append_fits (P := P) w base t o.type e i size h1 h2 h4 g n cap xs hown' ad m c news hn hc h1c hroom
   exact main _ _ hrun (hK g cap w' r1 r2 (.inl rfl))
  ·subst hv
   obtain ⟨v', w', hrun, r1, r2⟩ := run_append_arg_grows (P := P) w t o.type e i z size bytes h1 h2 h3 h4 h5 h6 h7 ⟨g, 0, none⟩ n cap xs hown'.1 (fun j u hu => hown'.cells rfl j u hu) ad m c news hn hc (by omega) b1 b2
   exact main _ _ hrun (fin v' w' r1 r2)
end Go.Bel
