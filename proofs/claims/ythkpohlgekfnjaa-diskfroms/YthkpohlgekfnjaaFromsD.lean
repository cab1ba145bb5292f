/-
  A part of the walk of the law on images.
-/
import Derived.Test.YthkpohlgekfnjaaFromsC
namespace Go.Proofs.Ythkpohlgekfnjaa
open Go.ChangeShapes Go.WideShapes Go.ChangeAt Go.RowKit
attribute [local go_sem ↓] loadSec_seal storeSec_seal eqlSec_seal zeroSec
attribute [local go_sem] loadSec_run storeSec_run rowAt_at rowAt_old rowAt_drew rowAt_drewN roomSec_new roomAt_old roomAt_drew roomAt_drewN putSec_new putRow_past rowSec_put size_put putRow_drew putRow_drewN alloc_drewN setCell_drewN sec_size
namespace diskFroms
set_option linter.unusedVariables false
set_option maxHeartbeats 8000000 in
set_option maxRecDepth 20000 in
theorem in_good (m : Nat) (hm0 : 8 ≤ m) (hm1 : m ≤ 1024) (hN : m * 1024 ≤ 9000) (a : Option Addr) (len cap : Nat) (f : Nat → Int) (w : World) (hr : RdB w a len f) : Calls Try.prog 4 #[.slice a len cap, .int .i64 ((m * 1024 : Nat) : Int)] w fun e w' => e = .returned (.bool true) ∧ Below w.heap.size w w' := by
  obtain ⟨i0, hi, hz0, hz1, hz2⟩ := info_parts info5
  have hn0 : (0 : Int) ≤ ((m * 1024 : Nat) : Int) := by omega
  have hn1 : ((m * 1024 : Nat) : Int) ≤ 9000 := by omega
  have hlm : (len : Int) ≤ 9223372036854775807 := by have := hr.1; unfold maxLen at this; omega
  have HRw : Hid (RdB w a len f) := hr
  clear hr
  have hq9 : ((m * 1024 : Nat) : Int) / 1024 = (m : Int) := by omega
  have hs9 := strF_size (wheel f len) (m * 1024)
  have hlc : m * 1024 ≤ m * 1024 := Nat.le_refl _
  go_enter Try.func4, Try.ntmps4
  go_wp2_with (first
    | (go_at_call 9; refine (shown_any _).mono ?_; rintro e w1 ⟨rfl, hb1⟩; have HB1 : Hid (Below w.heap.size w w1) := hb1; clear hb1)
    | (at_make; refine wpList_make_full _ rfl _ _ 43 rfl w1.heap.size 5 i0 (.int .u8 0) 1 Try.underlying43 hi hz0 hz1 .i64 .i64 _ _ (m * 1024) rfl rfl (by omega) (by omega) (by rw [hz2]; omega) (by unfold maxLen; omega) (Nat.le_refl _) ?_; intro w2 hown2 hgrow2; have HI : Hid (BRow w2 w1.heap.size (m * 1024) (fun _ => 0) ∧ Below w1.heap.size w1 w2) := ⟨BRow.made hown2, (Below.refl _ w1).grown hgrow2 (Nat.le_refl _) (fun k hk => by cases hk)⟩; clear hown2 hgrow2))
  go_loopw [7] (fun i X => ∃ k : Nat, k ≤ m * 1024 ∧ i = .int .i64 k ∧ BRow X w1.heap.size (m * 1024) (mixed (wheel f len) k) ∧ Below w1.heap.size w1 X ∧ (len = 0 → k = 0)) (fun i _ => m * 1024 - (intOf i).toNat)
  case atStart => exact ⟨0, by omega, rfl, HI.out.1.ext (fun i hi => rfl), HI.out.2, fun _ => rfl⟩
  case round =>
    obtain ⟨k, hk, rfl, hB, hb, h0⟩ := hrel
    have HBI : Hid (Below w.heap.size w wr) := HB1.out.trans (hb.mono HB1.out.size)
    have HBw : Hid (BRow wr w1.heap.size (m * 1024) (mixed (wheel f len) k) ∧ Below w1.heap.size w1 wr) := ⟨hB, hb⟩
    by_cases hgo : k < m * 1024 ∧ 0 < len
    · obtain ⟨hk1, hl1⟩ := hgo
      have q0 : (k : Int) < ((m * 1024 : Nat) : Int) := by omega
      have q1 : (0 : Int) < (len : Int) := by omega
      have q2 : (0 : Int) ≤ (k : Int) := by omega
      have q3 : (0 : Int) ≤ (k : Int) % (len : Int) := Int.emod_nonneg _ (by omega)
      have q4 : (k : Int) % (len : Int) < (len : Int) := Int.emod_lt_of_pos _ q1
      obtain ⟨bb, off, rfl, hcc⟩ := wheel_cell (HRw.out.below HBI.out) hl1 k
      obtain ⟨c0, c1⟩ := hB.at hk1
      clear hB hb h0 HI
      go_wp2
      go_roundw
      case rel => exact ⟨k + 1, by omega, by go_num, mixed_step HBw.out.1 hk1 hl1, HBw.out.2.setCell (Nat.le_refl _) _, fun h => by omega⟩
      case measure => simp [intOf]; omega
    · have HRi : Hid (RdB wr (some ⟨w1.heap.size, 0, none⟩) (m * 1024) (wheel f len)) := (HBw.out.1.ext (fun i hi => mixed_end hgo h0 hi)).rd (by unfold maxLen; omega) (wheel_byte HRw.out)
      have HKs : Hid _ := hgo
      clear hB hb h0 HI
      by_cases hkn : k < m * 1024
      · have q0 : (k : Int) < ((m * 1024 : Nat) : Int) := by omega
        have q1 : ¬ (0 : Int) < (len : Int) := by omega
        have q2 : decide ((0 : Int) < (len : Int)) = false := decide_eq_false q1
        have hxin := conv_str (m * 1024) HRi.out
        obtain ⟨g, c, W, hcv, hrd, hLc, hmr, hg1, hg2, hbW⟩ := mine_world HRi.out
        have HM : Hid (RdB W (some ⟨g, 0, none⟩) (m * 1024) (wheel f len) ∧ (m * 1024) ≤ c ∧ MRow W g (m * 1024) ∧ wr.heap.size ≤ g ∧ g < W.heap.size ∧ Below wr.heap.size wr W ∧ RdB W (some ⟨w1.heap.size, 0, none⟩) (m * 1024) (wheel f len)) := ⟨hrd, hLc, hmr, hg1, hg2, hbW, HRi.out.below hbW⟩
        clear hrd hLc hmr hg1 hg2 hbW
        clear hgo
        go_wp2_with (first
          | (go_at_call 18; refine (from_good g 0 m c (wheel f len) _ hm0 hm1 HM.out.1 HM.out.2.1).mono ?_; rintro e w3 ⟨d, D, rfl, hR, hDn, hDm, hDS, hDf, hb3⟩; have H3 : Hid (Below W.heap.size W w3 ∧ Rep w3 d D ∧ D.n = m ∧ D.m = 0 ∧ D.S = (fun i j => (wheel f len) (i * 1024 + j)) ∧ D.fresh d W.heap.size) := ⟨hb3, hR, hDn, hDm, hDS, hDf⟩; clear hb3 hR hDn hDm hDS hDf)
          | (go_at_call 19; refine (rfrom_good _ _ m _ (wheel f len) _ hm0 hm1 (HM.out.2.2.2.2.2.2.below H3.out.1) hlc).mono ?_; rintro e w4 ⟨r, rfl, hb4⟩; have H4 : Hid (Tail w g (m * 1024) w4 ∧ Rep w4 d D) := ⟨(Tail.next (Tail.next ⟨HM.out.2.2.1, HBI.out.trans (HM.out.2.2.2.2.2.1.mono HBI.out.size), Nat.le_trans HBI.out.size HM.out.2.2.2.1⟩ HM.out.2.2.2.2.1 H3.out.1) (Nat.lt_of_lt_of_le HM.out.2.2.2.2.1 H3.out.1.size) hb4), H3.out.2.1.below hb4⟩; clear hb4))
        go_loopw [14] (fun i X => ∃ k : Nat, k ≤ m * 1024 ∧ i = .int .i64 k ∧ Tail w g (m * 1024) X ∧ Rep X d D) (fun i _ => m * 1024 - (intOf i).toNat)
        case atStart => exact ⟨0, by omega, rfl, H4.out⟩
        case round =>
          obtain ⟨k2, hk2, rfl, hX2, hRX⟩ := hrel
          have HX2 : Hid (Tail w g (m * 1024) _) := hX2
          have HRX : Hid (Rep _ d D) := hRX
          by_cases hlt2 : k2 < m * 1024
          · obtain ⟨⟨v0, y0⟩, y1⟩ := hX2.row.at hlt2
            have y2 : (0 : Int) ≤ (k2 : Int) := by omega
            have y3 : (k2 : Int) < (((m * 1024 : Nat) : Int)) := by omega
            clear hX2 hRX
            go_wp2
            go_roundw
            case rel => exact ⟨k2 + 1, by omega, by go_num, HX2.out.step _, tail_rep HRX.out H3.out.2.2.2.2.2 HM.out.2.2.2.2.1 _⟩
            case measure => simp [intOf]; omega
          · have y3 : ¬ (k2 : Int) < (((m * 1024 : Nat) : Int)) := by omega
            clear hX2 hRX
            have hDn := H3.out.2.2.1
            have hDm := H3.out.2.2.2.1
            go_wp2_with (first
              | (go_at_call 17; refine (image_any d D _ HRX.out).mono ?_; rintro e w5 ⟨gi, ci, he, hri, _, _, hb5⟩; rw [hDn] at he; obtain rfl := he; have hq5 := conv_str ci hri; rw [hDn, H3.out.2.2.2.2.1, strF_ext (g := wheel f len) (fun i _ => img_of i)] at hq5; have H5 : Hid (Rep w5 d D ∧ Below w.heap.size w w5) := ⟨HRX.out.below hb5, HX2.out.below.trans (hb5.mono HX2.out.below.size)⟩; clear hri hb5)
              | (go_at_call 16; refine (sectors_any d D _ H5.out.1).mono ?_; rintro e w6 ⟨he, hb6⟩; rw [hDn] at he; obtain rfl := he; have H6 : Hid (Rep w6 d D ∧ Below w.heap.size w w6) := ⟨H5.out.1.below hb6, H5.out.2.trans (hb6.mono H5.out.2.size)⟩; clear hb6)
              | (go_at_call 13; refine (writes_any d D _ H6.out.1).mono ?_; rintro e w7 ⟨gw, he, _, _, _, hb7⟩; rw [hDm] at he; obtain rfl := he; have H7 : Hid (Below w.heap.size w w7) := H6.out.2.trans (hb7.mono H6.out.2.size); clear hb7))
            go_ret
            exact ⟨by simp, H7.out⟩
      · have q0 : ¬ (k : Int) < ((m * 1024 : Nat) : Int) := by omega
        have hxin := conv_str (m * 1024) HRi.out
        obtain ⟨g, c, W, hcv, hrd, hLc, hmr, hg1, hg2, hbW⟩ := mine_world HRi.out
        have HM : Hid (RdB W (some ⟨g, 0, none⟩) (m * 1024) (wheel f len) ∧ (m * 1024) ≤ c ∧ MRow W g (m * 1024) ∧ wr.heap.size ≤ g ∧ g < W.heap.size ∧ Below wr.heap.size wr W ∧ RdB W (some ⟨w1.heap.size, 0, none⟩) (m * 1024) (wheel f len)) := ⟨hrd, hLc, hmr, hg1, hg2, hbW, HRi.out.below hbW⟩
        clear hrd hLc hmr hg1 hg2 hbW
        clear hgo
        go_wp2_with (first
          | (go_at_call 18; refine (from_good g 0 m c (wheel f len) _ hm0 hm1 HM.out.1 HM.out.2.1).mono ?_; rintro e w3 ⟨d, D, rfl, hR, hDn, hDm, hDS, hDf, hb3⟩; have H3 : Hid (Below W.heap.size W w3 ∧ Rep w3 d D ∧ D.n = m ∧ D.m = 0 ∧ D.S = (fun i j => (wheel f len) (i * 1024 + j)) ∧ D.fresh d W.heap.size) := ⟨hb3, hR, hDn, hDm, hDS, hDf⟩; clear hb3 hR hDn hDm hDS hDf)
          | (go_at_call 19; refine (rfrom_good _ _ m _ (wheel f len) _ hm0 hm1 (HM.out.2.2.2.2.2.2.below H3.out.1) hlc).mono ?_; rintro e w4 ⟨r, rfl, hb4⟩; have H4 : Hid (Tail w g (m * 1024) w4 ∧ Rep w4 d D) := ⟨(Tail.next (Tail.next ⟨HM.out.2.2.1, HBI.out.trans (HM.out.2.2.2.2.2.1.mono HBI.out.size), Nat.le_trans HBI.out.size HM.out.2.2.2.1⟩ HM.out.2.2.2.2.1 H3.out.1) (Nat.lt_of_lt_of_le HM.out.2.2.2.2.1 H3.out.1.size) hb4), H3.out.2.1.below hb4⟩; clear hb4))
        go_loopw [14] (fun i X => ∃ k : Nat, k ≤ m * 1024 ∧ i = .int .i64 k ∧ Tail w g (m * 1024) X ∧ Rep X d D) (fun i _ => m * 1024 - (intOf i).toNat)
        case atStart => exact ⟨0, by omega, rfl, H4.out⟩
        case round =>
          obtain ⟨k2, hk2, rfl, hX2, hRX⟩ := hrel
          have HX2 : Hid (Tail w g (m * 1024) _) := hX2
          have HRX : Hid (Rep _ d D) := hRX
          by_cases hlt2 : k2 < m * 1024
          · obtain ⟨⟨v0, y0⟩, y1⟩ := hX2.row.at hlt2
            have y2 : (0 : Int) ≤ (k2 : Int) := by omega
            have y3 : (k2 : Int) < (((m * 1024 : Nat) : Int)) := by omega
            clear hX2 hRX
            go_wp2
            go_roundw
            case rel => exact ⟨k2 + 1, by omega, by go_num, HX2.out.step _, tail_rep HRX.out H3.out.2.2.2.2.2 HM.out.2.2.2.2.1 _⟩
            case measure => simp [intOf]; omega
          · have y3 : ¬ (k2 : Int) < (((m * 1024 : Nat) : Int)) := by omega
            clear hX2 hRX
            have hDn := H3.out.2.2.1
            have hDm := H3.out.2.2.2.1
            go_wp2_with (first
              | (go_at_call 17; refine (image_any d D _ HRX.out).mono ?_; rintro e w5 ⟨gi, ci, he, hri, _, _, hb5⟩; rw [hDn] at he; obtain rfl := he; have hq5 := conv_str ci hri; rw [hDn, H3.out.2.2.2.2.1, strF_ext (g := wheel f len) (fun i _ => img_of i)] at hq5; have H5 : Hid (Rep w5 d D ∧ Below w.heap.size w w5) := ⟨HRX.out.below hb5, HX2.out.below.trans (hb5.mono HX2.out.below.size)⟩; clear hri hb5)
              | (go_at_call 16; refine (sectors_any d D _ H5.out.1).mono ?_; rintro e w6 ⟨he, hb6⟩; rw [hDn] at he; obtain rfl := he; have H6 : Hid (Rep w6 d D ∧ Below w.heap.size w w6) := ⟨H5.out.1.below hb6, H5.out.2.trans (hb6.mono H5.out.2.size)⟩; clear hb6)
              | (go_at_call 13; refine (writes_any d D _ H6.out.1).mono ?_; rintro e w7 ⟨gw, he, _, _, _, hb7⟩; rw [hDm] at he; obtain rfl := he; have H7 : Hid (Below w.heap.size w w7) := H6.out.2.trans (hb7.mono H6.out.2.size); clear hb7))
            go_ret
            exact ⟨by simp, H7.out⟩
end diskFroms
end Go.Proofs.Ythkpohlgekfnjaa
