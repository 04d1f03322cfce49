/- Proved here: what the reference's gzipHead does. -/
import Derived.Test.YtbpahojchgpdnaaGreatDoorRefA
set_option maxRecDepth 20000
set_option maxHeartbeats 4000000
namespace Go.Proofs.YtbpahojchgpdnaaGreatDoor
open Go.RowKit Go.Bel Go.Maps
theorem gzipHeadX_any (x base M e used : Nat) (b : ByteArray) (out name : List Nat) (s : XS) (w : World) (h : GA b x base M w w (GkXM b M 0 e out used name) e out used name s) :
  Calls Tryz.prog 114 #[.pointer (some ⟨x, 0, none⟩)] w fun r w' => r = .returned (.tuple #[]) ∧ ∃ s', GA b x base M w w' (GkXB b M e out used name) e out used name s' := by
 have HH := hide h
 have hxl := lt_of_block h.xat.blk
 clear h
 go_enter Tryz.func114, Tryz.ntmps114
 go_wp2_with fail
 obtain ⟨F0, hF0⟩ : ∃ F0, F0 = w.heap.size := ⟨_, rfl⟩
 obtain ⟨w1, hw1⟩ : ∃ w1, w1 = w.alloc (.cells #[.int .i64 31, .int .i64 139, .int .i64 8] 193) := ⟨_, rfl⟩
 have hal : Step (fun _ => False) w w1 := by rw [hw1]; exact (Step.refl _ _).alloc _
 have hfi : w1.heap[F0]? = some (.cells #[.int .i64 31, .int .i64 139, .int .i64 8] 193 (0, 0)) := by rw [hw1, hF0]; exact heap_alloc_new _ _
 have hFx : ¬ F0 = x := by omega
 rw [← hw1, ← hF0]
 have HAL := hide hal
 have hmk : ∀ (wr : World) (i : Nat), i < 3 → Step (· = x) w1 wr → wr.cell? ⟨F0, i, none⟩ = some (.int .i64 (mkAt i : Nat)) := fun wr i hi hs => by
  have hb := hs.at_ hfi hFx
  match i, hi with
  | 0, _ => exact blk_cell hb 0 _ rfl
  | 1, _ => exact blk_cell hb 1 _ rfl
  | 2, _ => exact blk_cell hb 2 _ rfl
 have HMK := hide hmk
 have h1 : GA b x base M w1 w1 (GkXM b M 0 e out used name) e out used name s := ⟨(unhide HH).xat.step0 hal, (unhide HH).vv, (unhide HH).oo, (unhide HH).mm, Step.refl _ _, (unhide HH).st⟩
 have H1 := hide h1
 clear hw1 hF0 hal hfi hmk h1 hxl
 go_loopg [3] 3 (fun k u3 wr => ∃ i : Nat, u3 = .int .i64 (i : Nat) ∧ k + i = 3 ∧ ∃ s1, GA b x base M w1 wr (GkXM b M i e out used name) e out used name s1)
 case atStart => exact ⟨0, rfl, rfl, s, unhide H1⟩
 case round =>
  obtain ⟨i, rfl, hk, s1, hga⟩ := hrel
  by_cases hlt : i < 3
  ·obtain ⟨c, hc, hN⟩ := hga.num 8 (by omega) (fun p nm h _ h8 => km_miss hlt p nm h h8)
   have hi3 : (i : Int) < 3 := by omega
   have hi0 : (0 : Int) ≤ (i : Int) := by omega
   have HN := hide hN
   clear hN hga
   go_wp2_with fail
   refine (unhide HN).mono ?_
   rintro r w2 ⟨rfl, s2, hga2⟩
   obtain ⟨_, _, e2, _⟩ := hga2.xat.cell
   have hcl := unhide HMK w2 i hlt hga2.step
   have HGA2 := hide hga2
   by_cases h0 : s2.err = 0
   ·have heb : ((s2.err : Int) == 0) = true := beq_iff_eq.2 (by omega)
    by_cases hm : c = mkAt i
    ·have hmb : ((c : Int) != ((mkAt i : Nat) : Int)) = false := by rw [bne_eq_false_iff_eq]; omega
     have HG := hide (hga2.weaken (fun _ p nm hp h => km_good hlt hm p nm hp h))
     clear hga2 hm HN HGA2 h0
     go_wp2_with fail
     go_roundg (gk - 1)
     case measure => omega
     case rel => exact ⟨i + 1, by simp, by omega, s2, unhide HG⟩
    ·have hmb : ((c : Int) != ((mkAt i : Nat) : Int)) = true := by rw [bne_iff_ne]; omega
     have HF := hide (hga2.fail (K' := GkXM b M (i + 1) e out used name) h0 4 (by decide) (fun p nm hp h => km_bad hlt hm p nm hp h))
     clear hga2 hm HN HGA2 h0
     go_wp2_with fail
     refine (unhide HF).mono ?_
     rintro r w3 ⟨rfl, s3, hga3⟩
     have HG := hide hga3
     clear hga3 HF
     go_wp2_with fail
     go_roundg (gk - 1)
     case measure => omega
     case rel => exact ⟨i + 1, by simp, by omega, s3, unhide HG⟩
   ·have heb : ((s2.err : Int) == 0) = false := beq_eq_false_iff_ne.2 (by omega)
    have HG := hide (hga2.dead (K' := GkXM b M (i + 1) e out used name) h0)
    clear hga2 HN HGA2 h0
    go_wp2_with fail
    go_roundg (gk - 1)
    case measure => omega
    case rel => exact ⟨i + 1, by simp, by omega, s2, unhide HG⟩
  ·obtain rfl : i = 3 := by omega
   obtain ⟨c, hc, hN⟩ := hga.num 8 (by omega) (fun p nm h _ h8 => kf_miss p nm h h8)
   have HN := hide hN
   clear hN hga H1 HMK
   go_wp2_with fail
   refine (unhide HN).mono ?_
   rintro r w2 ⟨rfl, s2, hga2⟩
   have hc256 : c < 256 := hc
   have HGA2 := hide hga2
   obtain ⟨_, _, e2, _⟩ := hga2.xat.cell
   obtain ⟨bad, hbad⟩ : ∃ bad : Bool, bad = (decide (s2.err = 0) && decide (¬ c < 32)) := ⟨_, rfl⟩
   clear hga2 HN hc
   go_upto_region 8 with fail
   go_cut [42] (fun u wc => u = .bool bad ∧ wc = w2)
   case first =>
    by_cases h0 : s2.err = 0
    ·have heb : ((s2.err : Int) == 0) = true := beq_iff_eq.2 (by omega)
     by_cases h32 : c < 32
     ·have h32' : ¬ 32 ≤ (c : Int) := by omega
      have HB := hide (show bad = false by rw [hbad, decide_eq_true h0, decide_eq_false (fun y => y h32)]; rfl)
      clear hbad
      go_wp2_with fail
      go_meet
      case rel => exact ⟨by rw [unhide HB], rfl⟩
     ·have h32' : 32 ≤ (c : Int) := by omega
      have HB := hide (show bad = true by rw [hbad, decide_eq_true h0, decide_eq_true h32]; rfl)
      clear hbad
      go_wp2_with fail
      go_meet
      case rel => exact ⟨by rw [unhide HB], rfl⟩
    ·have heb : ((s2.err : Int) == 0) = false := beq_eq_false_iff_ne.2 (by omega)
     have HB := hide (show bad = false by rw [hbad, decide_eq_false h0]; rfl)
     clear hbad
     go_wp2_with fail
     go_meet
     case rel => exact ⟨by rw [unhide HB], rfl⟩
   case rest =>
    obtain ⟨rfl, rfl⟩ := hcut
    go_upto_if 42 with fail
    go_cut [] (fun wd => ∃ s3, GA b x base M w1 wd (GkXF b M c e out used name) e out used name s3)
    case first =>
     cases bad with
     | true =>
      have hb := hbad.symm
      rw [Bool.and_eq_true, decide_eq_true_eq, decide_eq_true_eq] at hb
      have HF := hide ((unhide HGA2).fail (K' := GkXF b M c e out used name) hb.1 4 (by decide) (fun p nm hp h => kf_bad hb.2 p nm hp h))
      clear hb hbad
      go_wp2_with fail
      refine (unhide HF).mono ?_
      rintro r w3 ⟨rfl, s3, hga3⟩
      have HG := hide hga3
      clear hga3 HF
      go_wp2_with fail
      go_meet
      case rel => exact ⟨s3, unhide HG⟩
     | false =>
      have HG := hide (show GA b x base M w1 wc (GkXF b M c e out used name) e out used name s2 from by
       by_cases h0 : s2.err = 0
       ·have h32 : c < 32 := Decidable.byContradiction (fun h => by
         rw [decide_eq_true h0, decide_eq_true h] at hbad
         cases hbad)
        exact (unhide HGA2).weaken (fun _ p nm hp h => kf_good h32 p nm hp h)
       ·exact (unhide HGA2).dead h0)
      clear hbad
      go_wp2_with fail
      go_meet
      case rel => exact ⟨s2, unhide HG⟩
    case rest =>
     obtain ⟨s3, hga3⟩ := hcut
     clear HGA2 hbad e2
     obtain ⟨c48, _, hN⟩ := hga3.num 48 (by omega) (fun p nm h _ h8 => ke_miss p nm h h8)
     have HN := hide hN
     clear hN hga3
     go_wp2_with fail
     refine (unhide HN).mono ?_
     rintro r w4 ⟨rfl, s4, hga4⟩
     have HGA4 := hide (hga4.weaken (fun _ p nm hp h => ke_good p nm hp h))
     clear hga4 HN
     go_upto_if 50 with fail
     go_cut [] (fun wd => ∃ s5, GA b x base M w1 wd (GkXN b M c e out used name) e out used name s5)
     case first =>
      by_cases hc4 : c / 4 % 2 = 1
      ·have hb4 : ((c : Int) / 4 % 2 == 1) = true := beq_iff_eq.2 (by omega)
       obtain ⟨n, hn16, hN⟩ := (unhide HGA4).num 16 (by omega) (fun p nm h _ h8 => kp_miss16 hc4 p nm h h8)
       have HN := hide hN
       clear hN HGA4
       go_wp2_with fail
       refine (unhide HN).mono ?_
       rintro r w5 ⟨rfl, s5, hga5⟩
       have HGA5 := hide (hga5.weaken (fun _ p nm hp h => kp_good16 hc4 p nm hp h))
       have hn : n < 65536 := hn16
       clear hga5 HN hn16
       go_wp2_with fail
       go_loopg [7] (n + 1) (fun k u7 wr => ∃ i : Nat, u7 = .int .i64 (i : Nat) ∧ i ≤ n ∧ k + i = n + 1 ∧ ∃ s6, GA b x base M w1 wr (GkXP b M c (n - i) e out used name) e out used name s6)
       case atStart => exact ⟨0, rfl, Nat.zero_le _, by omega, s5, unhide HGA5⟩
       case round =>
        obtain ⟨i, rfl, hin, hk2, s6, hga6⟩ := hrel
        obtain ⟨_, _, e6, _⟩ := hga6.xat.cell
        by_cases hi : i < n
        ·have hi' : (i : Int) < (n : Int) := by omega
         by_cases h0 : s6.err = 0
         ·have heb : ((s6.err : Int) == 0) = true := beq_iff_eq.2 (by omega)
          obtain ⟨c8, _, hN⟩ := hga6.num 8 (by omega) (fun p nm h _ h8 => kp_miss (by omega) p nm h h8)
          have HN := hide hN
          clear hN hga6 h0 HGA5
          go_wp2_with fail
          refine (unhide HN).mono ?_
          rintro r w7 ⟨rfl, s7, hga7⟩
          have HG := hide (hga7.weaken (K' := GkXP b M c (n - (i + 1)) e out used name) (fun _ p nm _ h => by
           have h9 := kp_good (by omega) p nm h
           rw [show n - i - 1 = n - (i + 1) by omega] at h9
           exact h9))
          clear hga7 HN
          go_wp2_with fail
          go_roundg (gk - 1)
          case measure => omega
          case rel => exact ⟨i + 1, by simp, by omega, by omega, s7, unhide HG⟩
         ·have heb : ((s6.err : Int) == 0) = false := beq_eq_false_iff_ne.2 (by omega)
          have HG := hide (hga6.dead (K' := GkXN b M c e out used name) h0)
          clear hga6 h0 HGA5
          go_wp2_with fail
          go_meet
          case rel => exact ⟨s6, unhide HG⟩
        ·have hi' : ¬ (i : Int) < (n : Int) := by omega
         have hz : n - i = 0 := by omega
         rw [hz] at hga6
         have HG := hide (hga6.weaken (fun _ p nm hp h => kp_end p nm hp h))
         clear hga6 hz HGA5
         go_wp2_with fail
         go_meet
         case rel => exact ⟨s6, unhide HG⟩
      ·have hb4 : ((c : Int) / 4 % 2 == 1) = false := beq_eq_false_iff_ne.2 (by omega)
       have HG := hide ((unhide HGA4).weaken (fun _ p nm _ h => kn_of hc4 p nm h))
       clear HGA4
       go_wp2_with fail
       go_meet
       case rel => exact ⟨s4, unhide HG⟩
     case rest =>
      obtain ⟨s5, hga5⟩ := hcut
      have HGA5 := hide hga5
      clear hga5 HGA4
      go_upto_if 70 with fail
      go_cut [] (fun wd => ∃ s6, GA b x base M w1 wd (GkXR b M c e out used name) e out used name s6)
      case first =>
       by_cases hc8 : c / 8 % 2 = 1
       ·have hb8 : ((c : Int) / 8 % 2 == 1) = true := beq_iff_eq.2 (by omega)
        obtain ⟨l, hll, hT⟩ := (unhide HGA5).text (fun p nm l q h ht => kr_miss hc8 p nm l q h ht)
        have HT := hide hT
        have hmuch := (unhide HGA5).xat.much
        have HLA := hide (fun W => latinX_any (strOf l) W (by rw [str_size]; omega))
        have HAB := hide hll
        clear hT HGA5 hmuch hll
        go_wp2_with fail
        refine (unhide HT).mono ?_
        rintro r w6 ⟨rfl, s6, hga6⟩
        obtain ⟨_, _, e6, _, _, e5⟩ := hga6.xat.cell
        by_cases h0 : s6.err = 0
        ·have heb : ((s6.err : Int) == 0) = true := beq_iff_eq.2 (by omega)
         have HGA6 := hide hga6
         have HLB := hide (show bytesOf (strOf l) = l from by
          obtain ⟨nm, _, p0, _, ht⟩ := hga6.live h0
          exact bytesOf_str l ht.bytes)
         clear hga6 HT
         go_wp2_with fail
         refine (unhide HLA _).mono ?_
         rintro r w7 ⟨rfl, hs7⟩
         rw [unhide HLB]
         have hga7 := (unhide HGA6).step0 hs7
         obtain ⟨_, _, _, _, _, e57⟩ := hga7.xat.cell
         have ef57 := hga7.xat.free 5
         have hxl7 := lt_of_block hga7.xat.blk
         have HG := hide (hga7.named h0 (latinB l) (K' := GkXR b M c e out used name) (fun p nm h => kr_good hc8 l p nm h))
         clear hga7 HGA6 HLA h0 hs7
         go_wp2_with fail
         go_meet
         case rel => exact ⟨_, unhide HG⟩
        ·have heb : ((s6.err : Int) == 0) = false := beq_eq_false_iff_ne.2 (by omega)
         have HG := hide (hga6.dead (K' := GkXR b M c e out used name) h0)
         clear hga6 h0 HT HLA
         go_wp2_with fail
         go_meet
         case rel => exact ⟨s6, unhide HG⟩
       ·have hb8 : ((c : Int) / 8 % 2 == 1) = false := beq_eq_false_iff_ne.2 (by omega)
        have HG := hide ((unhide HGA5).weaken (fun _ p nm _ h => kr_of hc8 p nm h))
        clear HGA5
        go_wp2_with fail
        go_meet
        case rel => exact ⟨s5, unhide HG⟩
      case rest =>
       obtain ⟨s6, hga6⟩ := hcut
       have HGA6 := hide hga6
       clear hga6 HGA5
       go_upto_if 86 with fail
       go_cut [] (fun wd => ∃ s7, GA b x base M w1 wd (GkXC b M c e out used name) e out used name s7)
       case first =>
        by_cases hc16 : c / 16 % 2 = 1
        ·have hb16 : ((c : Int) / 16 % 2 == 1) = true := beq_iff_eq.2 (by omega)
         obtain ⟨l, hll, hT⟩ := (unhide HGA6).text (fun p nm l q h ht => kc_miss hc16 p nm l q h ht)
         have HT := hide hT
         clear hT HGA6 hll
         go_wp2_with fail
         refine (unhide HT).mono ?_
         rintro r w7 ⟨rfl, s7, hga7⟩
         have HG := hide (hga7.weaken (K' := GkXC b M c e out used name) (fun _ p nm _ h => kc_good hc16 l p nm h))
         clear hga7 HT
         go_wp2_with fail
         go_meet
         case rel => exact ⟨s7, unhide HG⟩
        ·have hb16 : ((c : Int) / 16 % 2 == 1) = false := beq_eq_false_iff_ne.2 (by omega)
         have HG := hide ((unhide HGA6).weaken (fun _ p nm _ h => kc_of hc16 p nm h))
         clear HGA6
         go_wp2_with fail
         go_meet
         case rel => exact ⟨s6, unhide HG⟩
       case rest =>
        obtain ⟨s7, hga7⟩ := hcut
        have HGA7 := hide hga7
        have HEND := hide (show ∀ W sE, GA b x base M w1 W (GkXB b M e out used name) e out used name sE → GA b x base M w W (GkXB b M e out used name) e out used name sE from fun W sE h => ⟨h.xat, h.vv, h.oo, h.mm, ((unhide HAL).mono (fun _ y => y.elim)).trans h.step, h.st⟩)
        obtain ⟨_, e71, e72, _⟩ := hga7.xat.cell
        clear hga7 HGA6 HH HAL
        by_cases hc2 : c / 2 % 2 = 1
        ·have hb2 : ((c : Int) / 2 % 2 == 1) = true := beq_iff_eq.2 (by omega)
         have e70 : wc.cell? ⟨x, 0, none⟩ = some (.string b) := (unhide HGA7).xat.cell.1
         have hth := (unhide HGA7).xat.there
         have hmu := (unhide HGA7).xat.much
         obtain ⟨k, hk8⟩ : ∃ k, k = s7.at_ / 8 := ⟨_, rfl⟩
         have hkb : k ≤ b.size := by omega
         have hkd : (s7.at_ : Int) / 8 = (k : Int) := by omega
         have HCK := hide (fun W => checkX_any (b.extract 0 k) W (by rw [ByteArray.size_extract]; omega))
         rw [bytesOf_front] at HCK
         have HU := hide (show crcWith 0 ((bytesOf b).take k) = crcWith 0 ((bytesOf b).take (s7.at_ / 8)) by rw [hk8])
         have hul := crcWith_lt 0 ((bytesOf b).take k)
         generalize crcWith 0 ((bytesOf b).take k) = u at *
         have hkb1 : (k : Int) ≤ (b.size : Int) := by omega
         have hkb2 : ¬ (b.size : Int) < (k : Int) := by omega
         have hkb3 : (0 : Int) ≤ (k : Int) := by omega
         have hkb4 : ¬ (k : Int) < 0 := by omega
         have hkw : IntKind.i64.wrap (k : Int) = (k : Int) := by rw [IntKind.wrap_i64]; omega
         have hsl := slice_front b k hkb
         clear hk8 hth
         go_wp2_with fail
         go_region_with
          (first | (go_at_call 150; refine (unhide HCK _).mono ?_; rintro r w8 ⟨rfl, rfl⟩))
         all_goals
          have hga8 := ((unhide HGA7).step0 ((Step.refl (fun _ => False) wc).drew)).pin
          obtain ⟨n, hn16, hN⟩ := hga8.num 16 (by omega) (fun p nm h _ h8 => kb_miss hc2 p nm h.2 h8)
          have hn : n < 65536 := hn16
          have HN := hide hN
          clear hN hga8 HGA7 hn16 HCK e70 e71 e72 hsl
          go_wp2_with fail
          refine (unhide HN).mono ?_
          rintro r w9 ⟨rfl, s9, hga9⟩
          obtain ⟨_, _, e9, _⟩ := hga9.xat.cell
          by_cases h0 : s9.err = 0
          ·have heb : ((s9.err : Int) == 0) = true := beq_iff_eq.2 (by omega)
           by_cases hnu : n = u % 65536
           ·have hb1 : ((n : Int) != (u : Int) % 65536) = false := by rw [bne_eq_false_iff_eq]; omega
            have HG := hide (hga9.weaken (fun _ p nm hp h => kb_good hc2 (unhide HU) hnu p nm hp h))
            clear hga9 h0 hnu HN
            go_wp2_with fail
            go_end0
            exact ⟨rfl, s9, unhide HEND _ _ (unhide HG)⟩
           ·have hb1 : ((n : Int) != (u : Int) % 65536) = true := by rw [bne_iff_ne]; omega
            have HF := hide (hga9.fail (K' := GkXB b M e out used name) h0 12 (by decide) (fun p nm hp h => kb_bad hc2 (unhide HU) hnu p nm hp h))
            clear hga9 h0 hnu HN
            go_wp2_with fail
            refine (unhide HF).mono ?_
            rintro r w10 ⟨rfl, s10, hga10⟩
            have HG := hide hga10
            clear hga10 HF
            go_wp2_with fail
            go_end0
            exact ⟨rfl, s10, unhide HEND _ _ (unhide HG)⟩
          ·have heb : ((s9.err : Int) == 0) = false := beq_eq_false_iff_ne.2 (by omega)
           have HG := hide (hga9.dead (K' := GkXB b M e out used name) h0)
           clear hga9 h0 HN
           go_wp2_with fail
           go_end0
           exact ⟨rfl, s9, unhide HEND _ _ (unhide HG)⟩
        ·have hb2 : ((c : Int) / 2 % 2 == 1) = false := beq_eq_false_iff_ne.2 (by omega)
         have HG := hide ((unhide HGA7).weaken (fun _ p nm _ h => kb_of hc2 p nm h))
         clear HGA7
         go_wp2_with fail
         go_end0
         exact ⟨rfl, s7, unhide HEND _ _ (unhide HG)⟩
end Go.Proofs.YtbpahojchgpdnaaGreatDoor
