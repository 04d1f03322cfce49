/- Proved here: what Literals answers. -/
import Derived.Test.YtbpahojchgpdnaaDoorReads
import Derived.Test.YtbpahojchgpdnaaDoorTold
import Derived.Test.YtbpahojchgpdnaaDoorLitPure
namespace Go.Proofs.YtbpahojchgpdnaaDoor
open Go.RowKit Go.Bel Go.Maps

/- which of n things the raw number c speaks of -/
def pickN (c : Int) (n : Nat) : Nat := if c < 0 then ((-(c + 1)) % n).toNat else (c % n).toNat

set_option maxRecDepth 20000 in
set_option maxHeartbeats 400000 in
theorem pick6_any (c : Int) (w : World) (h1 : -9223372036854775808 ≤ c) (h2 : c ≤ 9223372036854775807) :
    Calls Tryd.prog 4 #[.int .i64 c, .int .i64 6] w fun e w' => e = .returned (.int .i64 (pickN c 6 : Nat)) ∧ w' = w := by
  have hb : pickN c 6 < 6 := by unfold pickN; split <;> omega
  by_cases hc : c < 0
  · have e : ((pickN c 6 : Nat) : Int) = -((c + 1).tmod 6) := by
      have h3 : (-(c + 1)).tmod 6 = (-(c + 1)) % 6 := Int.tmod_eq_emod_of_nonneg (by omega)
      rw [← Int.neg_tmod, h3]
      unfold pickN; rw [if_pos hc]; omega
    have HE := hide e
    clear e
    go_enter Tryd.func4, Tryd.ntmps4
    go_wp2
    go_ret
    exact ⟨by rw [unhide HE]; rfl, rfl⟩
  · have e : ((pickN c 6 : Nat) : Int) = c % 6 := by unfold pickN; rw [if_neg hc]; omega
    have HE := hide e
    clear e
    go_enter Tryd.func4, Tryd.ntmps4
    go_wp2
    go_ret
    exact ⟨by rw [unhide HE]; rfl, rfl⟩

def strN (sa sb sc : ByteArray) (k : Nat) : ByteArray := if k = 0 then sa else if k = 1 then sb else sc
def kAt (n i : Nat) : Nat := if 3 ≤ n then (n + 2 * i) % 3 else (n + i) % 3
theorem kAt_lt (n i : Nat) : kAt n i < 3 := by unfold kAt; split <;> omega
theorem kAt_lo (n i : Nat) (h : n < 3) : kAt n i = (n + i) % 3 := by unfold kAt; rw [if_neg (by omega)]
theorem kAt_hi (n i : Nat) (h : 3 ≤ n) : kAt n i = (n + 2 * i) % 3 := by unfold kAt; rw [if_pos h]
theorem strN_size {sa sb sc : ByteArray} {m : Nat} (ha : sa.size ≤ m) (hb : sb.size ≤ m) (hc : sc.size ≤ m) (k : Nat) : (strN sa sb sc k).size ≤ m := by
  unfold strN
  split
  · exact ha
  · split
    · exact hb
    · exact hc
def cutL (l : List Nat) : List Nat := l.take 65535
def txtAt (sa sb sc : ByteArray) (n i : Nat) : List Nat := cutL (bytesOf (strN sa sb sc (kAt n i)))
def bitsTo (sa sb sc : ByteArray) (n : Nat) : Nat → List Bool
  | 0 => []
  | i + 1 => bitsTo sa sb sc n i ++ blockBits (kAt n i) (bitsTo sa sb sc n i).length (txtAt sa sb sc n i) (i == 2)
def allTo (sa sb sc : ByteArray) (n : Nat) : Nat → List Nat
  | 0 => []
  | i + 1 => allTo sa sb sc n i ++ txtAt sa sb sc n i

theorem bytesOf_cut (x : ByteArray) : bytesOf (x.extract 0 65535) = cutL (bytesOf x) := by
  unfold bytesOf cutL
  rw [← List.map_take]
  congr 1
  simp [ByteArray.data_extract]

theorem bytesOf_ext (x : ByteArray) (k : Nat) : bytesOf (x.extract 0 k) = (bytesOf x).take k := by
  unfold bytesOf
  rw [← List.map_take]
  congr 1
  rw [ByteArray.data_extract, Array.toList_extract, List.extract_eq_take_drop]
  simp

theorem bytesOf_append (x y : ByteArray) : bytesOf (x ++ y) = bytesOf x ++ bytesOf y := by
  unfold bytesOf
  rw [← List.map_append]
  congr 1
theorem blockBits_length (k p : Nat) (l : List Nat) (last : Bool) (hl : l.length ≤ 65535) : (blockBits k p l last).length ≤ 700000 := by
  unfold blockBits
  split
  · unfold storedBits
    simp only [List.length_append, beginBits_length, numBits_length, byteBits_length]
    have : (padBits (p + 3)).length ≤ 7 := by simp [padBits]; omega
    omega
  · split
    · unfold litBits
      simp only [List.length_append, beginBits_length]
      have := fixedAll_length l; have := fixedBits_length 256
      omega
    · unfold toldBits
      simp only [List.length_append, beginBits_length, numBits_length, firstBits_length, lensBits_length, codeBits_length]
      have := textBits_length (inText l) l; have := symBits_length (inText l) 256
      omega

theorem txt_lt (sa sb sc : ByteArray) (n i : Nat) : ∀ c ∈ txtAt sa sb sc n i, c < 256 := fun c hc => bytesOf_lt _ c (List.mem_of_mem_take hc)
theorem txt_len (sa sb sc : ByteArray) (n i : Nat) : (txtAt sa sb sc n i).length ≤ 65535 := by unfold txtAt cutL; rw [List.length_take]; omega

theorem runs_lit (sa sb sc : ByteArray) (n : Nat) (B X : List Nat) (hB : BitsIn (bitsTo sa sb sc n 3) B) (hlen : B.length = ((bitsTo sa sb sc n 3).length + 7) / 8) (hX : ∀ i : Nat, (B ++ X)[i]?.getD 0 < 256) (most : Nat) :
    ((allTo sa sb sc n 3).length ≤ most → ∃ s' m, PRun (B ++ X) m (init most) 0 s' ∧ s'.out = allTo sa sb sc n 3 ∧ (s'.p + 7) / 8 = B.length) ∧
    ((allTo sa sb sc n 3).length = most + 1 → ∃ s' m, PRun (B ++ X) m (init most) 11 s' ∧ s'.out = (allTo sa sb sc n 3).take most) := by
  have hf := allBits_from hB (by omega) X
  have hin := allBits_in (B ++ X) hX
  have hle : (allBits (B ++ X)).length ≤ 8 * (B ++ X).length := by rw [allBits_length]; exact Nat.le_refl _
  have e3 : bitsTo sa sb sc n 3 = bitsTo sa sb sc n 2 ++ blockBits (kAt n 2) (bitsTo sa sb sc n 2).length (txtAt sa sb sc n 2) true := rfl
  have e2 : bitsTo sa sb sc n 2 = bitsTo sa sb sc n 1 ++ blockBits (kAt n 1) (bitsTo sa sb sc n 1).length (txtAt sa sb sc n 1) false := rfl
  have e1 : bitsTo sa sb sc n 1 = blockBits (kAt n 0) 0 (txtAt sa sb sc n 0) false := rfl
  have f3 := hf
  rw [e3] at f3
  have g3 := f3.right
  have f2 := f3.left
  rw [e2] at f2
  have g2 := f2.right
  have f1 := f2.left
  rw [e1] at f1
  rw [Nat.zero_add] at g3 g2
  have b1 := blk_any hin hle _ _ _ _ (txt_lt sa sb sc n 0) (txt_len sa sb sc n 0) f1
  have b2 := blk_any hin hle _ _ _ _ (txt_lt sa sb sc n 1) (txt_len sa sb sc n 1) g2
  have b3 := blk_any hin hle _ _ _ _ (txt_lt sa sb sc n 2) (txt_len sa sb sc n 2) g3
  have l1 : 0 + (blockBits (kAt n 0) 0 (txtAt sa sb sc n 0) false).length = (bitsTo sa sb sc n 1).length := by rw [e1]; omega
  have l2 : (bitsTo sa sb sc n 1).length + (blockBits (kAt n 1) (bitsTo sa sb sc n 1).length (txtAt sa sb sc n 1) false).length = (bitsTo sa sb sc n 2).length := by rw [e2, List.length_append]
  have l3 : (bitsTo sa sb sc n 2).length + (blockBits (kAt n 2) (bitsTo sa sb sc n 2).length (txtAt sa sb sc n 2) true).length = (bitsTo sa sb sc n 3).length := by rw [e3, List.length_append]
  rw [l1] at b1
  rw [l2] at b2
  rw [l3] at b3
  have ha : allTo sa sb sc n 3 = txtAt sa sb sc n 0 ++ txtAt sa sb sc n 1 ++ txtAt sa sb sc n 2 := by simp [allTo]
  have h := three b1 b2 b3 most
  rw [ha]
  refine ⟨fun hm => ?_, fun hm => ?_⟩
  · obtain ⟨s', ⟨m, hr⟩, ho, hp⟩ := h.1 (by simp at hm; omega)
    exact ⟨s', m, hr, ho, by omega⟩
  · obtain ⟨s', ⟨m, hr⟩, ho⟩ := h.2 (by simp at hm; omega)
    exact ⟨s', m, hr, ho⟩

def LitRel (w1 : World) (b : Nat) (sa sb sc : ByteArray) (n j : Nat) (t : ByteArray) (wr : World) : Prop :=
  ∃ v', Bw wr b (b + 1) 25 5 v' (bitsTo sa sb sc n j) ∧ Wrt b w1 (.slice none 0 0) wr v' ∧ RowAt wr (b + 1) 26 3 (fun k => .string (strN sa sb sc k)) ∧ Off b v' (b + 1) ∧ bytesOf t = allTo sa sb sc n j ∧ (bitsTo sa sb sc n j).length ≤ j * 700000 ∧ t.size ≤ j * 65535

set_option maxRecDepth 20000 in
set_option maxHeartbeats 2000000 in
theorem literals_true (sa sb sc : ByteArray) (c : Int) (w : World) (h1 : -9223372036854775808 ≤ c) (h2 : c ≤ 9223372036854775807) (hO : OrderAt w) (h0 : 4 ≤ w.heap.size)
    (hsa : sa.size ≤ 140737488351232) (hsb : sb.size ≤ 140737488351232) (hsc : sc.size ≤ 140737488351232) :
    Calls Tryd.prog 3 #[.string sa, .string sb, .string sc, .int .i64 c] w fun r w' => r = .returned (.bool true) ∧ Step (fun _ => False) w w' := by
  go_enter Tryd.func3, Tryd.ntmps3
  go_wp2_with fail
  refine (pick6_any c _ h1 h2).mono ?_
  rintro r w1 ⟨rfl, hw1⟩
  obtain ⟨n, hn⟩ : ∃ n, n = pickN c 6 := ⟨_, rfl⟩
  have hn6 : n < 6 := by rw [hn]; unfold pickN; split <;> omega
  rw [← hn]
  clear hn
  subst hw1
  go_wp2_with fail
  obtain ⟨b, hb⟩ : ∃ b, b = w.heap.size := ⟨_, rfl⟩
  obtain ⟨w1, hw1⟩ : ∃ w1, w1 = (w.alloc (.cells #[.slice none 0 0, .int .i64 0] 25)).alloc (.cells #[.string sa, .string sb, .string sc] 26) := ⟨_, rfl⟩
  have hst1 : Step (fun _ => False) w w1 := by rw [hw1]; exact ((Step.refl _ _).alloc _).alloc _
  have hz1 : w1.heap.size = b + 1 + 1 := by rw [hw1, hb]; simp
  have hbw1 : Bw w1 b (b + 1) 25 5 (.slice none 0 0) [] := by
    refine ⟨[], ⟨⟨?_, World.ownsRow_nil _ _ _ _, BitsIn.nil, by omega⟩, rfl⟩⟩
    rw [hw1, hb]; exact heap_alloc2_old _ _ _
  have hrX : RowAt w1 (b + 1) 26 3 (fun k => .string (strN sa sb sc k)) := by
    refine ⟨#[.string sa, .string sb, .string sc], by rw [hw1, hb]; exact heap_alloc2_new _ _ _, rfl, fun i hi => ?_⟩
    have : i = 0 ∨ i = 1 ∨ i = 2 := by omega
    rcases this with rfl | rfl | rfl <;> rfl
  have hoX : Off b (.slice none 0 0) (b + 1) := ⟨by omega, by simp [Value.ownBlock]⟩
  have hpen : Pen w1 b (b + 1) (.slice none 0 0) [] := ⟨hbw1, by omega⟩
  rw [← hw1, ← hb]
  have hbw : w.heap.size ≤ b := by omega
  have HPEN := hide hpen
  have HST1 := hide hst1
  clear hw1 hb hst1 hz1
  go_loopw [11, 13] (fun all i wr => ∃ (j : Nat) (t : ByteArray), j ≤ 3 ∧ i = .int .i64 (j : Nat) ∧ all = .string t ∧ LitRel w1 b sa sb sc n j t wr) (fun _ i _ => 3 - (intOf i).toNat)
  case atStart => exact ⟨0, ⟨#[]⟩, by omega, rfl, rfl, .slice none 0 0, hbw1, Wrt.refl _ _ _, hrX, hoX, rfl, Nat.zero_le _, Nat.zero_le _⟩
  case round =>
    clear hbw1 hrX hoX hpen
    obtain ⟨j, t, hj, rfl, rfl, v', hbw', hwr', hrX, hoX, hall, hbl, hal⟩ := hrel
    by_cases hlt : j < 3
    · have hkl := kAt_lt n j
      have cX := hrX.cell (kAt n j) hkl
      have hsz := strN_size hsa hsb hsc (kAt n j)
      obtain ⟨x, hx⟩ : ∃ x, x = strN sa sb sc (kAt n j) := ⟨_, rfl⟩
      rw [← hx] at cX hsz
      have HRX := hide hrX
      have HX' := hide hx
      clear hrX hx
      obtain ⟨q, hq⟩ : ∃ q, q = kAt n j := ⟨_, rfl⟩
      have hqf : (n < 3 → (n + j) % 3 = q) ∧ (3 ≤ n → (n + 2 * j) % 3 = q) := by rw [hq]; exact ⟨fun h => (kAt_lo n j h).symm, fun h => (kAt_hi n j h).symm⟩
      rw [← hq] at cX hkl
      have HQ := hide hq
      clear hq
      have HQF := hide hqf
      clear hqf
      go_upto_if 35 with fail
      go_cut [14] (fun k wc => k = .int .i64 (q : Nat) ∧ wc = wr)
      case first =>
        by_cases h3 : n < 3
        · have hq1 : ((n : Int) + (j : Int)) % 3 = (q : Int) := by have := (unhide HQF).1 h3; omega
          go_wp2_with fail
          go_meet
          case rel => exact ⟨by rw [hq1], rfl⟩
        · have hq1 : ((n : Int) + 2 * (j : Int)) % 3 = (q : Int) := by have := (unhide HQF).2 (by omega); omega
          go_wp2_with fail
          go_meet
          case rel => exact ⟨by rw [hq1], rfl⟩
      case rest =>
        obtain ⟨rfl, rfl⟩ := hcut
        clear HQF
        go_upto_if 46 with fail
        go_cut [15] (fun sv w2 => (∃ y : ByteArray, sv = .string y ∧ bytesOf y = cutL (bytesOf x) ∧ y.size ≤ 65535) ∧ w2 = wc)
        case first =>
          by_cases h65 : 65535 < x.size
          · go_wp2_with fail
            go_meet
            case rel => exact ⟨⟨_, rfl, bytesOf_cut x, by rw [ByteArray.size_extract]; omega⟩, rfl⟩
          · go_wp2_with fail
            go_meet
            case rel => exact ⟨⟨_, rfl, by unfold cutL; rw [List.take_of_length_le (by rw [bytesOf_length]; omega)], by omega⟩, rfl⟩
        case rest =>
          obtain ⟨⟨y, rfl, hy, hys⟩, rfl⟩ := hcut
          have hyl : (bytesOf y).length ≤ 65535 := by rw [bytesOf_length]; exact hys
          have htx : txtAt sa sb sc n j = bytesOf y := by unfold txtAt; rw [← unhide HX', hy]
          obtain ⟨lb, hlb⟩ : ∃ lb : Bool, lb = (j == 2) := ⟨_, rfl⟩
          have hlb' : ((j : Int) == 2) = lb := by rw [hlb, Bool.eq_iff_iff, beq_iff_eq, beq_iff_eq]; omega
          have fin : ∀ w3 v3, Bw w3 b (b + 1) 25 5 v3 (bitsTo sa sb sc n j ++ blockBits q (bitsTo sa sb sc n j).length (bytesOf y) lb) → Wrt b wc v' w3 v3 → LitRel w1 b sa sb sc n (j + 1) (t ++ y) w3 := by
            intro w3 v3 g1 g2
            refine ⟨v3, ?_, hwr'.trans g2, (unhide HRX).wrt hoX g2, hoX.wrt (unhide HRX).lt g2, ?_, ?_, ?_⟩
            · rw [bitsTo, htx, ← unhide HQ, ← hlb]; exact g1
            · rw [bytesOf_append, hall, allTo, htx]
            · rw [bitsTo, htx, List.length_append]
              have := blockBits_length (kAt n j) (bitsTo sa sb sc n j).length (bytesOf y) (j == 2) hyl
              omega
            · rw [ByteArray.size_append]; omega
          have hpen2 : Pen wc b (b + 1) v' (bitsTo sa sb sc n j) := pen_of (unhide HPEN) hbw' hwr'
          have FIN := hide fin
          have HP2 := hide hpen2
          have HLB := hide hlb
          have htz : t.size + y.size ≤ 9223372036854775807 := by omega
          clear hy cX fin hpen2 hlb hbw' hwr' hall hoX HRX htx
          have hbl' : (bitsTo sa sb sc n j).length + 700000 < 70368744177664 := by omega
          have hq3 : q = 0 ∨ q = 1 ∨ q = 2 := by omega
          rcases hq3 with hq | hq | hq
          · subst hq
            go_wp2_with fail
            refine (stored_adds b (b + 1) y lb v' _ _ (unhide HP2) (by omega) hys).mono ?_
            rintro r w3 ⟨rfl, v3, g1, g2⟩
            have R := (unhide FIN) w3 v3 (by unfold blockBits; rw [if_pos rfl]; exact g1) g2
            clear g1 g2
            go_wp2_with fail
            go_roundw
            case rel => exact ⟨j + 1, _, by omega, by go_num, rfl, R⟩
            case measure => simp [intOf]; omega
          · subst hq
            go_wp2_with fail
            refine (literals_adds b (b + 1) y lb v' _ _ (unhide HP2) (by omega) hys).mono ?_
            rintro r w3 ⟨rfl, v3, g1, g2⟩
            have R := (unhide FIN) w3 v3 (by unfold blockBits; rw [if_neg (by omega), if_pos rfl]; exact g1) g2
            clear g1 g2
            go_wp2_with fail
            go_roundw
            case rel => exact ⟨j + 1, _, by omega, by go_num, rfl, R⟩
            case measure => simp [intOf]; omega
          · subst hq
            go_wp2_with fail
            refine (told_adds b (b + 1) y lb v' _ _ (unhide HP2) (by omega) hys).mono ?_
            rintro r w3 ⟨rfl, v3, g1, g2⟩
            have R := (unhide FIN) w3 v3 (by unfold blockBits; rw [if_neg (by omega), if_neg (by omega)]; exact g1) g2
            clear g1 g2
            go_wp2_with fail
            go_roundw
            case rel => exact ⟨j + 1, _, by omega, by go_num, rfl, R⟩
            case measure => simp [intOf]; omega
    · have hj3 : j = 3 := by omega
      subst hj3
      clear hlt hj
      obtain ⟨B, hBat⟩ := hbw'
      have hbig : 1 ≤ (bitsTo sa sb sc n 3).length := by
        have e3 : bitsTo sa sb sc n 3 = bitsTo sa sb sc n 2 ++ blockBits (kAt n 2) (bitsTo sa sb sc n 2).length (txtAt sa sb sc n 2) true := rfl
        rw [e3, List.length_append]
        unfold blockBits
        split
        · unfold storedBits; simp only [List.length_append, beginBits_length]; omega
        · split
          · unfold litBits; simp only [List.length_append, beginBits_length]; omega
          · unfold toldBits; simp only [List.length_append, beginBits_length]; omega
      have hlen := hBat.len
      obtain ⟨g, cap, hv, hgb, hgbase, hcs, hfr⟩ := hBat.row.shape (by omega)
      subst hv
      obtain ⟨c0, _, _, _⟩ := blk_two hBat.row.blk
      have hSrc : Go.Bel.Src wr g 0 B := ⟨fun i hi => by rw [Nat.zero_add]; exact hcs i hi, hBat.row.bits.byte, by omega⟩
      have hglt : g < wr.heap.size := (hBat.row.own.lt g rfl).2
      have hstw : Step (fun _ => False) w wr := by
        refine (unhide HST1).trans' hwr'.step (fun i hi hx => ?_)
        rcases hx with hx | hx
        · omega
        · simp [Value.ownBlock] at hx
      have hOr := hO.step hstw (fun _ _ x => x)
      have hal' : (allTo sa sb sc n 3).length = t.size := by rw [← hall, bytesOf_length]
      obtain ⟨s1, m1, r1, o1, u1⟩ := (runs_lit sa sb sc n B [] hBat.row.bits hlen (by rw [List.append_nil]; exact hBat.row.bits.byte) t.size).1 (by omega)
      rw [List.append_nil] at r1
      have hX : ∀ i : Nat, (B ++ [255, 0, 7])[i]?.getD 0 < 256 := fun i => by
        by_cases hi' : i < B.length
        · rw [List.getElem?_append_left hi']; exact hBat.row.bits.byte i
        · rw [List.getElem?_append_right (by omega)]
          have : i - B.length = 0 ∨ i - B.length = 1 ∨ i - B.length = 2 ∨ 3 ≤ i - B.length := by omega
          rcases this with h | h | h | h
          · rw [h]; decide
          · rw [h]; decide
          · rw [h]; decide
          · rw [List.getElem?_eq_none (by simpa using h)]; decide
      obtain ⟨s2, m2, r2, o2, u2⟩ := (runs_lit sa sb sc n B [255, 0, 7] hBat.row.bits hlen hX (t.size + 9)).1 (by omega)
      rw [← hall] at o1 o2
      have hrd := reads_ok g cap m1 m2 B t s1 s2 wr hSrc hglt hOr (by have := hstw.size; omega) (by omega) (by omega) (by omega) r1 o1 u1 r2 o2 u2
      have hmuch : t.size ≠ 0 → ∃ s3 m3, PRun B m3 (init (t.size - 1)) 11 s3 ∧ s3.out = (bytesOf t).take (t.size - 1) := fun h => by
        obtain ⟨s3, m3, r3, o3⟩ := (runs_lit sa sb sc n B [] hBat.row.bits hlen (by rw [List.append_nil]; exact hBat.row.bits.byte) (t.size - 1)).2 (by omega)
        rw [List.append_nil] at r3
        rw [← hall] at o3
        exact ⟨s3, m3, r3, o3⟩
      have hbk := hBat.row.blk
      have HRD := hide hrd
      have HMU := hide hmuch
      have HSRC := hide hSrc
      have HSTW := hide hstw
      have HOR := hide hOr
      have HBK := hide hbk
      clear hrd hmuch hSrc hstw hOr hbk hBat hcs hfr r1 r2 o1 o2 u1 u2 hall hwr' hrX hoX hX HPEN HST1 hO
      have ht1 : t.size ≤ 196605 := by omega
      have hBl : B.length ≤ 10000000 := by omega
      have hBg : 0 < B.length := by omega
      clear hlen hbl hbig hal'
      go_wp2_with fail
      refine (unhide HRD).mono ?_
      rintro r w2 ⟨rfl, hs2⟩
      have hst2 := (unhide HSTW).trans hs2
      have k0 := (blk_two (hs2.at_ (unhide HBK) (fun x => x))).1
      have hS2 := (unhide HSRC).step hs2 (fun x => x)
      have hO2 := (unhide HOR).step hs2 (fun _ _ x => x)
      have hgl2 : g < w2.heap.size := by have := hs2.size; omega
      have h02 : 4 ≤ w2.heap.size := by have := hst2.size; omega
      have HST2 := hide hst2
      have HS2 := hide hS2
      have HO2 := hide hO2
      clear hst2 hS2 hO2 hs2 HSTW HSRC HOR HBK HRD
      by_cases ht0 : t.size = 0
      · have ht0' : ((t.size : Int) == 0) = true := beq_iff_eq.2 (by omega)
        have HT0 := hide ht0
        clear ht0
        go_wp2_with fail
        go_ret
        exact ⟨rfl, unhide HST2⟩
      · have ht0' : ((t.size : Int) == 0) = false := beq_eq_false_iff_ne.2 (by omega)
        obtain ⟨s3, m3, r3, o3⟩ := (unhide HMU) ht0
        have hun := unpack_ok g 0 cap (t.size - 1) m3 11 B s3 w2 (unhide HS2) hgl2 (unhide HO2) h02 (by omega) r3
        have HUN := hide hun
        have HO3 := hide o3
        clear hun r3 o3 HMU
        go_wp2_with fail
        rw [show ((t.size : Int) - 1) = ((t.size - 1 : Nat) : Int) by omega]
        refine (unhide HUN).mono ?_
        rintro r w3 ⟨v3, rfl, hown3, hs3⟩
        have hu3 : usedOf 11 s3 = 0 := by unfold usedOf; rw [if_neg (by omega)]
        rw [hu3]
        have hlast := bytesOf_ext t (t.size - 1)
        rw [unhide HO3, ← hlast] at hown3
        obtain ⟨va, vl, vc, hv⟩ : ∃ a n c, v3 = .slice a n c := by
          obtain ⟨_, ⟨hv, _⟩ | ⟨_, _, _, hv, _⟩⟩ := hown3
          · exact ⟨_, _, _, hv⟩
          · exact ⟨_, _, _, hv⟩
        subst hv
        have hst3 := (unhide HST2).trans hs3
        have cv : ∀ W : World, (∀ k, k < w3.heap.size → W.heap[k]? = w3.heap[k]?) → (convert 23 9 (.slice va vl vc)).run Tryd.prog W = .ok (.string (t.extract 0 (t.size - 1))) W := fun W hW => owned_string hown3 (fun k hk => hW k (hown3.lt k hk).2)
        have HCV := hide cv
        have HST3 := hide hst3
        clear cv hst3 hown3 hs3 hu3 hlast HO3 HUN HST2 HS2 HO2
        go_upto_region 27 with fail
        obtain ⟨T, hT⟩ : ∃ T, T = w3.heap.size := ⟨_, rfl⟩
        obtain ⟨w4, hw4⟩ : ∃ w4, w4 = w3.alloc (.cells #[.int .i64 11, .slice va vl vc, .int .i64 0, .string ⟨#[]⟩] 32) := ⟨_, rfl⟩
        have hst4 : Step (fun _ => False) w3 w4 := by rw [hw4]; exact (Step.refl _ _).alloc _
        have hb4 : w4.heap[T]? = some (.cells #[.int .i64 11, .slice va vl vc, .int .i64 0, .string ⟨#[]⟩] 32 (0, 0)) := by rw [hw4, hT]; exact heap_alloc_new _ _
        rw [← hw4, ← hT]
        have q0 : w4.cell? ⟨T, 0, none⟩ = some (.int .i64 11) := blk_cell hb4 0 _ rfl
        have q1 : w4.cell? ⟨T, 1, none⟩ = some (.slice va vl vc) := blk_cell hb4 1 _ rfl
        have q2 : w4.cell? ⟨T, 2, none⟩ = some (.int .i64 0) := blk_cell hb4 2 _ rfl
        have cv2 : ∀ m, (convert 23 9 (.slice va vl vc)).run Tryd.prog (w4.drewN m) = .ok (.string (t.extract 0 (t.size - 1))) (w4.drewN m) := fun m => (unhide HCV) (w4.drewN m) (fun k hk => hst4.block k hk (fun x => x))
        have cv3 := cv2 0
        rw [World.drewN_zero] at cv3
        have hti : (0 : Int) ≤ (t.size : Int) - 1 := by omega
        have hti2 : (t.size : Int) - 1 ≤ (t.size : Int) := by omega
        have HFIN := hide ((unhide HST3).trans hst4)
        clear hw4 hT hst4 hb4 HCV HST3
        go_quiet (fail)
        go_wp2
        go_ret
        exact ⟨rfl, (unhide HFIN).drewN _⟩
end Go.Proofs.YtbpahojchgpdnaaDoor
